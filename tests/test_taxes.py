"""Point 38: taxes, and how quotients are rounded."""

from fractions import Fraction
from math import floor

from keptnights.errors import BadNumber
from keptnights.taxes import Taxes, half_up, rounded
from tests.support import NO_NUMBERS, Case

HALF = Fraction(1, 2)


def away_from_zero(value):
    return floor(value + HALF) if value >= 0 else -floor(-value + HALF)


class TestTaxes(Case):
    def test_quotients(self):
        for bottom in (1, 2, 3, 4, 7, 10, 100):
            for top in range(-35, 36):
                value = Fraction(top, bottom)
                self.assertEqual(half_up(top, bottom), floor(value + HALF))
                self.assertEqual(rounded(top, bottom), away_from_zero(value))
        self.assertEqual([self.ask(half_up, top, 2) for top in (-3, -1, 1, 3)], [-1, 0, 1, 2])
        self.assertEqual([self.ask(rounded, top, 2) for top in (-3, -1, 0, 1, 3)], [-2, -1, 0, 1, 2])
        self.assertEqual((half_up(10 ** 40 + 1, 2), rounded(-10 ** 40 - 1, 2)), (5 * 10 ** 39 + 1, -5 * 10 ** 39 - 1))

    def test_fields(self):
        taxes = self.ask(Taxes, 250, 19)
        self.assertEqual((taxes.night_cents, taxes.percent), (250, 19))
        self.assertEqual((Taxes(0, 0).percent, Taxes(9999, 100).night_cents), (0, 9999))

    def test_equal(self):
        self.assertTrue(Taxes(250, 19) == Taxes(250, 19))
        self.assertFalse(Taxes(250, 19) != Taxes(250, 19))
        for other in (Taxes(250, 20), Taxes(251, 19), (250, 19), None, 250):
            self.assertFalse(Taxes(250, 19) == other)
            self.assertTrue(Taxes(250, 19) != other)

    def test_sums(self):
        for percent in (0, 1, 7, 19, 50, 100):
            taxes = Taxes(250, percent)
            for cents in list(range(-120, 121)) + [10 ** 9 + 7, -10 ** 9 - 7]:
                self.assertEqual(taxes.on(cents), away_from_zero(Fraction(cents * percent, 100)))
                self.assertEqual(taxes.within(cents), away_from_zero(Fraction(cents * percent, 100 + percent)))
                self.assertEqual(taxes.net(cents), cents - taxes.within(cents))
        taxes = Taxes(250, 50)
        self.assertEqual([self.ask(taxes.on, cents) for cents in (1, -1, 3, -3, 2)], [1, -1, 2, -2, 1])
        self.assertEqual([self.ask(taxes.within, cents) for cents in (150, -150, 1, 2)], [50, -50, 0, 1])
        self.assertEqual([self.ask(taxes.net, cents) for cents in (150, -150, 1, 2)], [100, -100, 1, 1])

    def test_nights(self):
        self.assertEqual([self.ask(Taxes(250, 19).for_nights, many) for many in (0, 1, 60)], [0, 250, 15000])
        self.assertEqual(Taxes(0, 19).for_nights(9), 0)

    def test_wrong_numbers(self):
        for value in NO_NUMBERS + (-1, 10000):
            self.refuse(BadNumber, (value,), Taxes, value, None)
        for value in NO_NUMBERS + (-1, 101):
            self.refuse(BadNumber, (value,), Taxes, 9999, value)
            self.refuse(BadNumber, (value,), Taxes, percent=value, night_cents=0)
