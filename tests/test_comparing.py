"""Point 33: tariffs that are never dearer than others."""

from random import Random

from keptnights.comparing import (cheaper_days, dearer_from, dearer_in_window, difference, first_dearer, first_positive,
                                  first_unlike, greatest_excess, is_dearer, last_not_dearer, never_dearer, steady_from,
                                  weekly_drift, window)
from keptnights.tariffs import Tariff
from tests.support import Case
from tests.test_tariffs import points_of, random_tariff


def differences(one, two, most):
    """The differences of all stays of 1 to most nights: rows by nights, then by weekdays."""
    lefts = [[100 - ([0] + [percent for many, percent in tariff.percents if many <= nights])[-1]
              for nights in range(most + 1)] for tariff in (one, two)]
    sums = [[0] * 7, [0] * 7]
    rows = []
    for nights in range(1, most + 1):
        for row, tariff in zip(sums, (one, two)):
            for day in range(7):
                row[day] += tariff.week[(day + nights - 1) % 7]
        rows.append([a * lefts[0][nights] - b * lefts[1][nights] for a, b in zip(*sums)])
    return rows


def first_with(rows, test):
    return next(((k + 1, day) for k, row in enumerate(rows) for day in range(7) if test(row[day])), None)


class TestComparing(Case):
    def random_pairs(self, many):
        random = Random(33)
        for _ in range(many):
            one = random_tariff(random)
            kind = random.randrange(4)
            two = random_tariff(random)
            if kind == 0:
                two = Tariff(one.week, two.percents)
            elif kind == 1:
                two = Tariff([max(0, rate + random.choice((-1, 0, 0, 1))) for rate in one.week], one.percents)
            elif kind == 2:
                week = list(one.week)
                random.shuffle(week)
                two = Tariff(week, one.percents)
            yield one, two

    def test_the_examples(self):
        self.assertEqual(first_dearer(Tariff([100] * 7), Tariff([101] * 6 + [90])), (1, 6))
        self.assertEqual(first_dearer(Tariff([100] * 7), Tariff([100] * 7, [(7, 5)])), (7, 0))

    def test_against_far_more_nights_than_the_window(self):
        kinds = {}
        for one, two in self.random_pairs(300):
            steady = max(one.steady, two.steady)
            rows = differences(one, two, 500)
            drift = rows[499][0] - rows[492][0]
            self.assertEqual((self.ask(steady_from, one, two), self.ask(weekly_drift, one, two)), (steady, drift))
            self.assertEqual(self.ask(window, one, two), tuple(range(1, steady + 7)))
            found = first_with(rows, lambda value: value > 0)
            if found is not None or drift <= 0:
                self.assertEqual(self.ask(first_dearer, one, two), found)
                self.assertIs(self.ask(never_dearer, one, two), found is None)
            self.assertEqual(self.ask(dearer_in_window, one, two), first_with(rows[:steady + 6], lambda value: value > 0))
            unlike = first_with(rows, lambda value: value != 0)
            if unlike is not None or drift == 0:
                self.assertEqual(self.ask(first_unlike, one, two), unlike)
            greatest = None if drift > 0 else max(map(max, rows))
            self.assertEqual(self.ask(greatest_excess, one, two), greatest)
            kinds[(drift > 0) - (drift < 0), found is None] = True
        self.assertEqual(len(kinds), 5)

    def test_the_last_stay_that_is_not_dearer(self):
        kinds = {}
        for one, two in self.random_pairs(150):
            rows = differences(one, two, 1500)
            drift = rows[499][0] - rows[492][0]
            for day in range(7):
                last = max([k + 1 for k, row in enumerate(rows) if row[day] <= 0], default=0)
                # One of the last nights of the trial is only not dearer if there is no greatest number.
                self.assertIs(last > 1480, drift <= 0)
                expected = None if drift <= 0 else last
                self.assertEqual(self.ask(last_not_dearer, one, two, day), expected)
                self.assertEqual(self.ask(dearer_from, one, two, day), None if expected is None else expected + 1)
                kinds[(drift > 0) - (drift < 0), expected == 0] = True
        self.assertEqual(len(kinds), 4)

    def test_drifts_just_above_at_and_just_below_zero(self):
        # A week costs 99 * 99 = 9801 points by the first tariff, and 98 * 100 = 9800 by the second one.
        one = Tariff([99, 0, 0, 0, 0, 0, 0], [(2, 1)])
        two = Tariff([70, 0, 0, 0, 0, 0, 28], [(2, 0)])
        for left, right, drift in ((one, two, 1), (two, one, -1), (one, one, 0)):
            rows = differences(left, right, 28000)
            self.assertEqual(weekly_drift(left, right), drift)
            self.assertEqual(first_dearer(left, right), first_with(rows, lambda value: value > 0))
            self.assertEqual(greatest_excess(left, right), None if drift > 0 else max(map(max, rows)))
            for day in range(7):
                last = max([k + 1 for k, row in enumerate(rows) if row[day] <= 0], default=0)
                self.assertEqual(last_not_dearer(left, right, day), last if drift > 0 else None)
        # It takes thousands of weeks until all stays from a Monday on are dearer.
        self.assertTrue(max(last_not_dearer(one, two, day) for day in range(7)) > 7 * 2700)

    def test_the_first_steady_stay_is_dearer(self):
        for nights in (2, 7, 8, 13, 59, 60):
            one, two = Tariff([5] * 7), Tariff([5] * 7, [(nights, 1)])
            self.assertEqual((first_dearer(one, two), first_unlike(two, one)), ((nights, 0), (nights, 0)))
            self.assertEqual([last_not_dearer(one, two, 3), dearer_from(one, two, 3)], [nights - 1, nights])
            self.assertEqual((first_dearer(two, one), greatest_excess(two, one)), (None, 0))
            one, two = Tariff([5, 5, 5, 5, 5, 5, 6], [(nights, 1)]), Tariff([6] * 7, [(nights, 10)])
            self.assertEqual(first_dearer(one, two), first_with(differences(one, two, 200), lambda value: value > 0))

    def test_a_difference_of_one_point(self):
        one, two = Tariff([1, 0, 0, 0, 0, 0, 0], [(2, 1)]), Tariff([1, 0, 0, 0, 0, 0, 0], [(2, 2)])
        self.assertEqual((difference(one, two, 0, 2), first_dearer(one, two), first_unlike(two, one)), (1, (2, 0), (2, 0)))
        self.assertEqual((is_dearer(one, two, (2, 0)), is_dearer(two, one, (2, 0))), (True, False))
        self.assertEqual((cheaper_days(two, one, 2), cheaper_days(one, two, 2)), ((0, 6), ()))
        self.assertEqual((never_dearer(one, two), never_dearer(two, one)), (False, True))

    def test_differences(self):
        for one, two in self.random_pairs(30):
            for day in range(7):
                for nights in (0, 1, 5, 12, 33):
                    value = points_of(one.week, one.percents, day, nights) - points_of(two.week, two.percents, day, nights)
                    self.assertEqual(self.ask(difference, one, two, day, nights), value)
                    self.assertIs(self.ask(is_dearer, one, two, (nights, day)), value > 0)
            for nights in (0, 1, 5, 33):
                days = tuple(day for day in range(7) if difference(one, two, day, nights) < 0)
                self.assertEqual(self.ask(cheaper_days, one, two, nights), days)

    def test_the_same_tariff(self):
        tariff = Tariff([100] * 7, [(5, 50)])
        self.assertEqual((first_dearer(tariff, tariff), first_unlike(tariff, tariff)), (None, None))
        self.assertEqual((never_dearer(tariff, tariff), greatest_excess(tariff, tariff)), (True, 0))
        self.assertEqual((last_not_dearer(tariff, tariff, 0), dearer_from(tariff, tariff, 0)), (None, None))
        self.assertEqual((cheaper_days(tariff, tariff, 3), window(tariff, tariff)[-1]), ((), 11))

    def test_all_stays_are_dearer(self):
        one, two = Tariff([2] * 7), Tariff([1] * 7)
        self.assertEqual([last_not_dearer(one, two, 0), dearer_from(one, two, 0)], [0, 1])
        self.assertEqual([last_not_dearer(two, one, 0), dearer_from(two, one, 0)], [None, None])
        self.assertEqual((greatest_excess(one, two), greatest_excess(two, one)), (None, -100))
        self.assertEqual((first_unlike(one, two), first_unlike(two, one)), ((1, 0), (1, 0)))

    def test_the_greatest_of_differences_below_zero_is_of_one_night_at_least(self):
        one, two = Tariff([0] * 7), Tariff([5, 4, 3, 2, 3, 4, 5])
        self.assertEqual(greatest_excess(one, two), -200)

    def test_the_first_positive_week(self):
        for value in range(-20, 5):
            for drift in range(1, 8):
                weeks = next(k for k in range(99) if value + k * drift > 0)
                self.assertEqual(self.ask(first_positive, value, drift), weeks)
        self.assertEqual(first_positive(-10 ** 30, 1), 10 ** 30 + 1)
