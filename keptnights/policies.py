"""Policies: how many nights are charged for a stay that was cancelled, or whose guest never came."""

from keptnights.checks import is_between, is_row, want_number, want_right, want_sequence
from keptnights.errors import BadItem

MOST_STEPS = 10
MOST_DAYS = 400
MOST_CHARGED = 60
MINUTES_OF_A_DAY = 1440


def day_of_minute(minute):
    """The day that has a minute."""
    return minute // MINUTES_OF_A_DAY


def is_step(value):
    """Whether a value is a pair (days, nights) of a policy."""
    return is_row(value, 2) and is_between(value[0], 0, MOST_DAYS) and is_between(value[1], 0, MOST_CHARGED)


def copied_steps(value):
    """The pairs (days, nights) of a sequence, with falling days, as tuples."""
    want_sequence(value)
    want_right([is_step(item) for item in value], MOST_STEPS)
    for index in range(1, len(value)):
        if value[index][0] >= value[index - 1][0]:
            raise BadItem(index)
    return tuple([tuple(step) for step in value])


class Policy:
    """The nights that are charged by the days ahead of the first night, later than that, and for the absent."""

    def __init__(self, steps, late, absent):
        copied = copied_steps(steps)
        want_number(late, 0, MOST_CHARGED)
        want_number(absent, 0, MOST_CHARGED)
        self.steps = copied
        self.late = late
        self.absent = absent

    def __eq__(self, other):
        return isinstance(other, Policy) and self.fields() == other.fields()

    def fields(self):
        """The fields in the order of the parameters."""
        return (self.steps, self.late, self.absent)

    def nights_charged(self, minute, first):
        """The nights that are charged for a stay from a night on that is cancelled at a minute."""
        ahead = first - day_of_minute(minute)
        for days, nights in self.steps:
            if days <= ahead:
                return nights
        return self.late

    def penalty(self, rates, nights):
        """The sum of the first so many rates."""
        return sum(rates[:nights])

    def is_mild(self):
        """Whether those who cancel later, or never come, are never charged fewer nights."""
        charged = [nights for _, nights in self.steps] + [self.late, self.absent]
        return all([charged[k] <= charged[k + 1] for k in range(len(charged) - 1)])
