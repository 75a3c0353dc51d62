"""Taxes: cents by nights, and a percent of sums."""

from keptnights.checks import want_number

MOST_NIGHT_CENTS = 9999


def half_up(top, bottom):
    """A quotient rounded to the nearest whole number, halves upwards."""
    return (2 * top + bottom) // (2 * bottom)


def rounded(top, bottom):
    """A quotient rounded to the nearest whole number, halves away from 0."""
    return half_up(top, bottom) if top >= 0 else -half_up(-top, bottom)


class Taxes:
    """So many cents a night, and a percent."""

    def __init__(self, night_cents, percent):
        want_number(night_cents, 0, MOST_NIGHT_CENTS)
        want_number(percent, 0, 100)
        self.night_cents = night_cents
        self.percent = percent

    def __eq__(self, other):
        if not isinstance(other, Taxes):
            return False
        return self.night_cents == other.night_cents and self.percent == other.percent

    def for_nights(self, many):
        """The cents for so many nights."""
        return self.night_cents * many

    def on(self, cents):
        """The percent of a sum."""
        return rounded(cents * self.percent, 100)

    def within(self, cents):
        """The part of a sum that is the percent, for a sum that has it in it."""
        return rounded(cents * self.percent, 100 + self.percent)

    def net(self, cents):
        """A sum without the percent that it has in it."""
        return cents - self.within(cents)
