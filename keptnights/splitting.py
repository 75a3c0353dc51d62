"""Splitting: whether a stay is cheaper as several stays one after the other."""


def split_gain(tariff, day, nights, ahead):
    """How many points less a stay costs as one of the nights ahead and one of the rest."""
    parts = tariff.points(day, ahead) + tariff.points((day + ahead) % 7, nights - ahead)
    return tariff.points(day, nights) - parts


def first_cheaper(rows):
    """The triple (nights, weekday, nights of the first part) of the first price above that of two parts, or None.

    The rows are for the weekdays, with prices for 1, 2 and more nights.
    """
    for nights in range(2, len(rows[0]) + 1):
        for day in range(7):
            for ahead in range(1, nights):
                rest = rows[(day + ahead) % 7][nights - ahead - 1]
                if rows[day][nights - 1] > rows[day][ahead - 1] + rest:
                    return (nights, day, ahead)
    return None


def points_rows(tariff, most):
    """For each weekday the points of stays of 1 to most nights."""
    return [[tariff.points(day, nights) for nights in range(1, most + 1)] for day in range(7)]


def first_split(tariff):
    """The triple (nights, weekday, nights of the first part) of the shortest stay that is cheaper in two, or None."""
    # Two steady parts cost the same as one stay, and a steady part beside a short one may as well
    # be the shortest steady one.
    return first_cheaper(points_rows(tariff, 2 * tariff.steady - 1))


def is_split_proof(tariff):
    """Whether no stay is cheaper in several parts."""
    return first_split(tariff) is None


def sums_ahead(tariff, end, most):
    """For 0 to most nights ahead of a weekday the sum of their rates."""
    sums = [0]
    for nights in range(1, most + 1):
        sums.append(sums[-1] + tariff.week[(end - nights) % 7])
    return sums


def cheapest_ways(tariff, end, most):
    """For 0 to most nights ahead of a weekday the best way: its points, number of parts and first part.

    Of the steady first parts only the best one so far is kept: they all cost the same by the night.
    """
    sums = sums_ahead(tariff, end, most)
    steady = tariff.steady
    lefts = [tariff.left(part) for part in range(steady + 1)]
    ways = [(0, 0, 0)]
    best = None
    for nights in range(1, most + 1):
        found = []
        for part in range(1, min(steady, nights + 1)):
            points, parts, _ = ways[nights - part]
            found.append((points + (sums[nights] - sums[nights - part]) * lefts[part], parts + 1, part))
        rest = nights - steady
        if rest >= 0:
            # The greatest rest has the shortest first part.
            reached = (ways[rest][0] - sums[rest] * lefts[steady], ways[rest][1], -rest)
            best = reached if best is None else min(best, reached)
            found.append((best[0] + sums[nights] * lefts[steady], best[1] + 1, nights + best[2]))
        ways.append(min(found))
    return ways


def cheapest_parts(tariff, day, nights):
    """The points of the cheapest way to book a stay, and the numbers of nights of its parts."""
    ways = cheapest_ways(tariff, (day + nights) % 7, nights)
    parts = []
    left = nights
    while left > 0:
        parts.append(ways[left][2])
        left = left - parts[-1]
    return (ways[nights][0], tuple(parts))


def parts_points(tariff, day, parts):
    """The points of stays of these numbers of nights, one after the other from a weekday on."""
    total = 0
    begun = 0
    for part in parts:
        total = total + tariff.points((day + begun) % 7, part)
        begun = begun + part
    return total


def saved_points(tariff, day, nights):
    """How many points the cheapest way to book a stay saves."""
    return tariff.points(day, nights) - cheapest_parts(tariff, day, nights)[0]


def proofed(tariff, most):
    """For each weekday the points of the cheapest ways to book 1 to most nights."""
    ways = [cheapest_ways(tariff, end, most) for end in range(7)]
    return tuple([tuple([ways[(day + k) % 7][k][0] for k in range(1, most + 1)]) for day in range(7)])


def is_subadditive(rows):
    """Whether no price of seven rows is above that of two parts."""
    return first_cheaper(rows) is None
