"""Tariffs: rates by weekdays, and percents that longer stays cost less."""

from keptnights.checks import are_between, is_between, is_row, want_right, want_sequence
from keptnights.errors import BadItem

MOST_RATE = 99999
MOST_STEPS = 12
SHORTEST_STEP = 2
LONGEST_STEP = 60


def is_week(value):
    """Whether a value is a row of seven rates."""
    return are_between(value, 7, 0, MOST_RATE)


def copied_week(value):
    """The seven rates of a sequence as a tuple."""
    want_sequence(value)
    # The items are looked at before their number is.
    want_right([is_between(item, 0, MOST_RATE) for item in value], len(value))
    if len(value) != 7:
        raise BadItem(None)
    return tuple(value)


def is_step(value):
    """Whether a value is a pair (nights, percent)."""
    if not is_row(value, 2):
        return False
    return is_between(value[0], SHORTEST_STEP, LONGEST_STEP) and is_between(value[1], 0, 100)


def copied_percents(value):
    """The pairs (nights, percent) of a sequence, nights ascending, as tuples."""
    want_sequence(value)
    want_right([is_step(item) for item in value], MOST_STEPS)
    for index in range(1, len(value)):
        if value[index][0] <= value[index - 1][0]:
            raise BadItem(index)
    return tuple([tuple(pair) for pair in value])


def percent_off(percents, nights):
    """The percent of the last pair whose number of nights is at most this one, 0 without one."""
    found = 0
    for many, percent in percents:
        if many <= nights:
            found = percent
    return found


class Tariff:
    """Rates in cents for the seven weekdays, and pairs (nights, percent) for longer stays."""

    def __init__(self, week, percents=()):
        self.week = copied_week(week)
        self.percents = copied_percents(percents)

    def __eq__(self, other):
        return isinstance(other, Tariff) and self.week == other.week and self.percents == other.percents

    @property
    def steady(self):
        """The number of nights from which on the percent stays the same."""
        return self.percents[-1][0] if len(self.percents) > 0 else 1

    def left(self, nights):
        """The percent that a stay of so many nights costs."""
        return 100 - percent_off(self.percents, nights)

    def rates(self, day, nights):
        """The sum of the rates of so many nights from a weekday on."""
        weeks, rest = divmod(nights, 7)
        return weeks * sum(self.week) + sum([self.week[(day + k) % 7] for k in range(rest)])

    def points(self, day, nights):
        """What a stay of so many nights from a weekday on costs, in hundredths of a cent."""
        return self.rates(day, nights) * self.left(nights)

    def scaled(self, percent):
        """The tariff with a percent of all rates, rounded down."""
        return Tariff([rate * percent // 100 for rate in self.week], self.percents)
