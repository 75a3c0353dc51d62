"""Comparing tariffs: whether one is ever dearer than the other, for stays of any length.

From the steady number of nights on, each week more adds the same to the difference of two
tariffs, the drift. So the last seven numbers of the window tell of all longer stays.
"""


def difference(one, two, day, nights):
    """The points of the first tariff less those of the second one."""
    return one.points(day, nights) - two.points(day, nights)


def steady_from(one, two):
    """The number of nights from which on both tariffs are steady."""
    return max(one.steady, two.steady)


def weekly_drift(one, two):
    """What the difference grows by with a week more, for steady stays."""
    steady = steady_from(one, two)
    return difference(one, two, 0, steady + 7) - difference(one, two, 0, steady)


def window(one, two):
    """The numbers of nights that tell of all stays."""
    return tuple(range(1, steady_from(one, two) + 7))


def first_positive(value, drift):
    """The least number of weeks with value + weeks * drift above 0, for a drift above 0."""
    return 0 if value > 0 else -value // drift + 1


def dearer_in_window(one, two):
    """The pair (nights, weekday) of the first stay of the window that costs more by the first tariff, or None."""
    for nights in window(one, two):
        for day in range(7):
            if difference(one, two, day, nights) > 0:
                return (nights, day)
    return None


def first_dearer(one, two):
    """The pair (nights, weekday) of the shortest stay that costs more by the first tariff, or None."""
    # Whole weeks differ by the drift each, and the window has a steady number of whole weeks: if
    # the drift is above 0 this one is dearer, and otherwise no longer stay is the first.
    return dearer_in_window(one, two)


def never_dearer(one, two):
    """Whether no stay costs more by the first tariff."""
    return first_dearer(one, two) is None


def first_unlike(one, two):
    """The pair (nights, weekday) of the shortest stay with two prices, or None."""
    found = [pair for pair in (first_dearer(one, two), first_dearer(two, one)) if pair is not None]
    return min(found) if len(found) > 0 else None


def greatest_excess(one, two):
    """The greatest difference of all stays, None if there is no greatest."""
    if weekly_drift(one, two) > 0:
        return None
    return max([difference(one, two, day, nights) for nights in window(one, two) for day in range(7)])


def last_not_dearer(one, two, day):
    """The most nights of a stay from a weekday that is not dearer by the first tariff.

    0 if all stays are dearer, None if there is no greatest number.
    """
    drift = weekly_drift(one, two)
    # Without a drift above 0, no steady number of whole weeks is dearer.
    if drift <= 0:
        return None
    numbers = [0]
    for nights in window(one, two):
        value = difference(one, two, day, nights)
        if value <= 0:
            steady = nights >= steady_from(one, two)
            numbers.append(nights + 7 * (first_positive(value, drift) - 1) if steady else nights)
    return max(numbers)


def dearer_from(one, two, day):
    """The number of nights from which on all stays from a weekday are dearer, None if there is none."""
    last = last_not_dearer(one, two, day)
    return None if last is None else last + 1


def is_dearer(one, two, pair):
    """Whether the stay of a pair (nights, weekday) costs more by the first tariff."""
    return difference(one, two, pair[1], pair[0]) > 0


def cheaper_days(one, two, nights):
    """The weekdays from which a stay of so many nights costs less by the first tariff."""
    return tuple([day for day in range(7) if difference(one, two, day, nights) < 0])
