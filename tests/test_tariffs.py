"""Point 32: tariffs."""

from random import Random

from keptnights.errors import BadItem, TooMany
from keptnights.tariffs import Tariff, percent_off
from tests.support import NO_NUMBERS, NO_SEQUENCES, Case

WEEK = (100, 200, 300, 400, 500, 600, 700)
PERCENTS = ((2, 10), (7, 30), (14, 20))


def random_tariff(random, highest=20, longest=12):
    """A tariff of low rates, whose percents rise and fall."""
    steps = sorted(random.sample(range(2, longest + 1), random.randint(0, min(4, longest - 1))))
    return Tariff([random.randrange(highest) for _ in range(7)], [(nights, random.randint(0, 100)) for nights in steps])


def points_of(week, percents, day, nights):
    """What a stay costs, night by night."""
    percent = [0] + [percent for many, percent in percents if many <= nights]
    return sum(week[(day + k) % 7] for k in range(nights)) * (100 - percent[-1])


def wrong_weeks():
    """Pairs (week, index) of values that are no weeks."""
    for value in NO_SEQUENCES:
        yield value, None
    for value in NO_NUMBERS + (-1, 100000):
        yield [1] * 6 + [value], 6
        yield (1, value, None), 1
        yield [1] * 8 + [value], 8
    for size in (0, 1, 6, 8, 14):
        yield [99999] * size, None


def wrong_percents():
    """Pairs (percents, index) of values that are no percents, but for those with too many pairs."""
    for value in NO_SEQUENCES:
        yield value, None
    for value in NO_NUMBERS:
        yield [(60, 100), (value, 0)], 1
        yield [(60, 100), (60, value), None], 1
    for value in ((1, 0), (61, 0), (2, -1), (2, 101), (2,), (2, 1, 0), None, "ab", {2: 1}, (), 2):
        yield [(60, 0), (2, 0), value], 2
    for value, index in (([(2, 0), (2, 0)], 1), ([(2, 0), (5, 0), (4, 0), (3, 0)], 2), ([(9, 0), (8, 0), (9, 0)], 1)):
        yield value, index


def too_many_percents():
    return [(2 + k, 1) for k in range(13)]


class TestTariffs(Case):
    def test_fields(self):
        tariff = self.ask(Tariff, WEEK, PERCENTS)
        self.assertEqual((tariff.week, tariff.percents, tariff.steady), (WEEK, PERCENTS, 14))
        tariff = self.ask(Tariff, WEEK)
        self.assertEqual((tariff.week, tariff.percents, tariff.steady), (WEEK, (), 1))
        self.assertEqual(Tariff([0] * 7, [(2, 0)]).steady, 2)
        self.assertEqual(Tariff([99999] * 7, [(49 + k, 100) for k in range(12)]).steady, 60)

    def test_equal(self):
        self.assertTrue(Tariff(WEEK, PERCENTS) == Tariff(list(WEEK), [list(pair) for pair in PERCENTS]))
        self.assertFalse(Tariff(WEEK, PERCENTS) != Tariff(WEEK, PERCENTS))
        for other in (Tariff(WEEK), Tariff(WEEK[::-1], PERCENTS), Tariff(WEEK, PERCENTS[:2]), None, 1, WEEK, (WEEK, PERCENTS)):
            self.assertFalse(Tariff(WEEK, PERCENTS) == other)
            self.assertTrue(Tariff(WEEK, PERCENTS) != other)

    def test_copies(self):
        week, percents = list(WEEK), [[2, 10]]
        tariff = Tariff(week, percents)
        week[0] = percents[0][1] = 5
        percents.append([3, 0])
        self.assertEqual((tariff.week, tariff.percents), (WEEK, ((2, 10),)))

    def test_points_night_by_night(self):
        random = Random(32)
        for _ in range(60):
            tariff = random_tariff(random, 99999, 60)
            for day in range(7):
                for nights in list(range(30)) + [59, 60, 61, 200]:
                    points = points_of(tariff.week, tariff.percents, day, nights)
                    self.assertEqual(tariff.points(day, nights), points)
                    rates = points_of(tariff.week, (), day, nights) // 100
                    self.assertEqual((tariff.rates(day, nights), tariff.rates(day, nights) * tariff.left(nights)),
                                     (rates, points))

    def test_all_forms(self):
        tariff = Tariff(WEEK, PERCENTS)
        self.assertEqual([self.ask(tariff.left, nights) for nights in (0, 1, 2, 6, 7, 13, 14, 15, 10 ** 6)],
                         [100, 100, 90, 90, 70, 70, 80, 80, 80])
        self.assertEqual([self.ask(tariff.rates, 6, nights) for nights in (0, 1, 2, 7, 8)], [0, 700, 800, 2800, 3500])
        self.assertEqual([self.ask(tariff.points, 6, nights) for nights in (0, 1, 2, 7)], [0, 70000, 72000, 196000])
        self.assertEqual([self.ask(percent_off, PERCENTS, nights) for nights in (0, 1, 2, 6, 7, 13, 14, 99)],
                         [0, 0, 10, 10, 30, 30, 20, 20])
        self.assertEqual(self.ask(percent_off, [], 5), 0)

    def test_stays_of_no_nights_and_of_many(self):
        tariff = Tariff(WEEK, PERCENTS)
        self.assertEqual([tariff.points(day, 0) for day in range(7)], [0] * 7)
        self.assertEqual(tariff.points(3, 7 * 10 ** 20), 2800 * 10 ** 20 * 80)
        self.assertEqual(tariff.points(6, 7 * 10 ** 20 + 1), (2800 * 10 ** 20 + 700) * 80)

    def test_scaled(self):
        tariff = Tariff([0, 1, 3, 99, 100, 199, 99999], PERCENTS)
        for percent, week in ((0, (0,) * 7), (100, tariff.week), (50, (0, 0, 1, 49, 50, 99, 49999)),
                              (99, (0, 0, 2, 98, 99, 197, 98999)), (1, (0, 0, 0, 0, 1, 1, 999))):
            self.assertEqual(self.ask(tariff.scaled, percent), Tariff(week, PERCENTS))
        self.assertEqual(tariff.week, (0, 1, 3, 99, 100, 199, 99999))

    def test_wrong_weeks(self):
        for value, index in wrong_weeks():
            self.refuse(BadItem, (index,), Tariff, value, None)
            self.refuse(BadItem, (index,), Tariff, value)

    def test_wrong_percents(self):
        for value, index in wrong_percents():
            self.refuse(BadItem, (index,), Tariff, WEEK, value)
        self.refuse(TooMany, (12,), Tariff, WEEK, too_many_percents())
        self.refuse(TooMany, (12,), Tariff, WEEK, too_many_percents()[::-1])
        self.refuse(BadItem, (13,), Tariff, WEEK, too_many_percents() + [None])
