"""Point 34: stays booked as several ones."""

from random import Random

from keptnights.splitting import (cheapest_parts, first_split, is_split_proof, is_subadditive, parts_points, proofed,
                                  saved_points, split_gain)
from keptnights.tariffs import Tariff
from tests.support import Case
from tests.test_tariffs import points_of, random_tariff


def all_parts(nights):
    """All ways to book a stay as stays of at least one night."""
    if nights == 0:
        return [()]
    return [(part,) + rest for part in range(1, nights + 1) for rest in all_parts(nights - part)]


def points_table(tariff, most):
    return [[points_of(tariff.week, tariff.percents, day, nights) for nights in range(most + 1)] for day in range(7)]


def parts_cost(table, day, parts):
    total = 0
    for part in parts:
        total, day = total + table[day][part], (day + part) % 7
    return total


def first_in_two(table, most):
    """The first stay that is cheaper in two, by a trial of all of at most so many nights."""
    return next(((nights, day, ahead) for nights in range(2, most + 1) for day in range(7) for ahead in range(1, nights)
                 if table[day][nights] > table[day][ahead] + table[(day + ahead) % 7][nights - ahead]), None)


class TestSplitting(Case):
    def random_tariffs(self, many, longest=8):
        random = Random(34)
        for _ in range(many):
            tariff = random_tariff(random, random.choice((3, 20, 99999)), longest)
            if random.random() < 0.4:
                percents = sorted(percent for _, percent in tariff.percents)
                tariff = Tariff(tariff.week, [(nights, percent) for (nights, _), percent in zip(tariff.percents, percents)])
            yield tariff

    def test_first_splits_against_far_longer_stays(self):
        answers = {True: 0, False: 0}
        for tariff in self.random_tariffs(150):
            found = first_in_two(points_table(tariff, 50), 50)
            self.assertEqual(self.ask(first_split, tariff), found)
            self.assertIs(self.ask(is_split_proof, tariff), found is None)
            answers[found is None] += 1
        self.assertTrue(min(answers.values()) > 30)

    def test_first_splits_longer_than_the_steady_number(self):
        # A short stay beside one with a percent costs more than that saves, but two with a percent do not.
        self.assertEqual(first_split(Tariff([5] * 7, [(2, 21), (3, 20)])), (4, 0, 2))
        self.assertEqual(first_split(Tariff([5] * 7, [(59, 81), (60, 80)])), (118, 0, 59))
        self.assertEqual(first_split(Tariff([5, 5, 5, 5, 5, 5, 6], [(59, 81), (60, 80)])), (118, 0, 59))
        random = Random(341)
        longer = 0
        for _ in range(60):
            week, steady = [random.choice((5, 5, 5, 6)) for _ in range(7)], random.randint(3, 12)
            percents = [(steady - 1, 81), (steady, 80)] if steady > 3 else [(2, 21), (3, 20)]
            tariff = Tariff(week, percents)
            found = first_in_two(points_table(tariff, 60), 60)
            self.assertEqual(first_split(tariff), found)
            longer += found is not None and found[0] > steady
        self.assertTrue(longer > 20)

    def test_first_splits_at_the_steady_number(self):
        self.assertEqual(first_split(Tariff([5] * 7, [(7, 50), (8, 0)])), (8, 0, 1))
        self.assertEqual(first_split(Tariff([3] * 7, [(2, 5), (3, 1)])), (3, 0, 1))
        self.assertEqual(first_split(Tariff([0, 0, 0, 0, 0, 0, 5], [(2, 1), (60, 0)])), (60, 0, 1))
        for steady in (2, 3, 9, 60):
            self.assertIsNone(first_split(Tariff([3, 4] + [5] * 5, [(steady, 50)])))

    def test_cheapest_parts_against_all_parts(self):
        several = 0
        for tariff in self.random_tariffs(60, 5):
            table = points_table(tariff, 9)
            for nights in range(9):
                for day in (0, 3, 6):
                    ranked = min((parts_cost(table, day, parts), len(parts), parts) for parts in all_parts(nights))
                    self.assertEqual(self.ask(cheapest_parts, tariff, day, nights), (ranked[0], ranked[2]))
                    saved = table[day][nights] - ranked[0]
                    self.assertEqual(self.ask(saved_points, tariff, day, nights), saved)
                    several += saved > 0
            proof = is_split_proof(tariff)
            if proof:
                self.assertTrue(all(saved_points(tariff, day, nights) == 0 for day in range(7) for nights in range(30)))
        self.assertTrue(several > 50)

    def test_ways_that_cost_the_same(self):
        random = Random(342)
        ways = {nights: all_parts(nights) for nights in range(9)}
        for _ in range(120):
            steps = sorted(random.sample(range(2, 6), random.randint(1, 4)))
            tariff = Tariff([random.choice((0, 0, 1)) for _ in range(7)], [(k, random.choice((0, 50, 75))) for k in steps])
            table = points_table(tariff, 9)
            for nights, day in ((5, 0), (6, 1), (7, 2), (8, 3), (8, 6)):
                ranked = min((parts_cost(table, day, parts), len(parts), parts) for parts in ways[nights])
                self.assertEqual(cheapest_parts(tariff, day, nights), (ranked[0], ranked[2]))

    def test_long_stays(self):
        for tariff in list(self.random_tariffs(12, 20)):
            most = 120
            table = points_table(tariff, most)
            costs = [[0] * (most + 1) for _ in range(7)]
            for nights in range(1, most + 1):
                for day in range(7):
                    costs[day][nights] = min(table[day][part] + costs[(day + part) % 7][nights - part]
                                             for part in range(1, nights + 1))
            self.assertEqual(self.ask(proofed, tariff, most), tuple(tuple(row[1:]) for row in costs))
            for day in range(7):
                points, parts = cheapest_parts(tariff, day, most - day)
                self.assertEqual((points, sum(parts)), (costs[day][most - day], most - day))
                self.assertEqual(parts_points(tariff, day, parts), points)

    def test_the_fewest_parts_then_the_first_ones(self):
        tariff = Tariff([0] * 7, [(3, 50)])
        self.assertEqual(cheapest_parts(tariff, 2, 9), (0, (9,)))
        tariff = Tariff([10] * 7, [(2, 50), (4, 0)])
        for nights, parts in ((1, (1,)), (2, (2,)), (3, (3,)), (4, (2, 2)), (5, (2, 3)), (6, (3, 3)), (7, (2, 2, 3)),
                              (8, (2, 3, 3)), (9, (3, 3, 3)), (10, (2, 2, 3, 3))):
            self.assertEqual(cheapest_parts(tariff, 5, nights), (500 * nights if nights > 1 else 1000, parts))
        tariff = Tariff([10] * 7, [(2, 50), (3, 0), (4, 50)])
        self.assertEqual([cheapest_parts(tariff, 0, nights)[1] for nights in (3, 5, 6, 8)], [(1, 2), (5,), (6,), (8,)])

    def test_stays_of_thousands_of_weeks(self):
        tariff = Tariff([70, 10, 30, 20, 90, 10, 50], [(2, 10), (7, 60), (30, 40), (60, 5)])
        points, parts = cheapest_parts(tariff, 1, 36525)
        self.assertEqual((sum(parts), parts_points(tariff, 1, parts)), (36525, points))
        self.assertEqual(saved_points(tariff, 1, 36525), tariff.points(1, 36525) - points)
        self.assertEqual(proofed(tariff, 1000)[1][999], cheapest_parts(tariff, 1, 1000)[0])

    def test_no_nights(self):
        tariff = Tariff([5] * 7)
        self.assertEqual((cheapest_parts(tariff, 3, 0), saved_points(tariff, 3, 0)), ((0, ()), 0))
        self.assertEqual((parts_points(tariff, 3, []), proofed(tariff, 0)), (0, ((),) * 7))
        self.assertIs(is_subadditive([[]] * 7), True)
        self.assertEqual(first_split(tariff), None)

    def test_gains(self):
        for tariff in self.random_tariffs(20):
            table = points_table(tariff, 20)
            for day in range(7):
                for nights, ahead in ((2, 1), (9, 4), (20, 19), (5, 0), (5, 5)):
                    gain = table[day][nights] - table[day][ahead] - table[(day + ahead) % 7][nights - ahead]
                    self.assertEqual(self.ask(split_gain, tariff, day, nights, ahead), gain)
                self.assertEqual(self.ask(parts_points, tariff, day, (3, 8, 1, 20)), parts_cost(table, day, (3, 8, 1, 20)))

    def test_subadditive_rows(self):
        answers = {True: 0, False: 0}
        random = Random(340)
        for tariff in self.random_tariffs(60):
            proof = proofed(tariff, 12)
            self.assertIs(self.ask(is_subadditive, proof), True)
            table = points_table(tariff, 12)
            right = first_in_two(table, 12) is None
            answers[right] += 1
            self.assertIs(self.ask(is_subadditive, [row[1:] for row in table]), right)
            rows = [list(row) for row in proof]
            day, nights = random.randrange(7), random.randrange(12)
            rows[day][nights] += 1
            right = first_in_two([[0] + row for row in rows], 12) is None
            answers[right] += 1
            self.assertIs(is_subadditive(rows), right)
        self.assertTrue(min(answers.values()) > 10)
        self.assertIs(is_subadditive([[1, 2]] * 7), True)
        self.assertIs(is_subadditive([[1, 2]] * 6 + [[1, 3]]), False)
        self.assertIs(is_subadditive([[9]] * 7), True)
