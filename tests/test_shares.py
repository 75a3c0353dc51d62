"""Point 44: quotas."""

from fractions import Fraction
from itertools import product
from math import gcd
from random import Random

from keptnights.errors import BadItem, BadNumber, TooMany
from keptnights.gates import Gate
from keptnights.shares import (are_quotas, best_quotas, best_share, class_shares, incomes_from, is_less, lowest, share_of,
                               worst_arrivals)
from tests.support import ANYTHING, NO_NUMBERS, NO_SEQUENCES, Case


def all_quotas(rooms, size):
    return [quotas for quotas in product(range(rooms + 1), repeat=size) if sum(quotas) <= rooms]


def share_by_words(rooms, pays, quotas):
    return min(Fraction(sum(pays[i] * quotas[i] for i in range(j, len(pays))), rooms * pays[j]) for j in range(len(pays)))


def best_by_words(rooms, pays):
    """Of all quotas with the greatest share those with the fewest rooms from the last class on, the rest to class 0."""
    choices = all_quotas(rooms, len(pays))
    best = max(share_by_words(rooms, pays, quotas) for quotas in choices)
    choices = [quotas for quotas in choices if share_by_words(rooms, pays, quotas) == best]
    quotas = list(min(choices, key=lambda quotas: quotas[::-1]))
    quotas[0] += rooms - sum(quotas)
    return best, tuple(quotas)


def small_cases():
    random = Random(44)
    for size, most in ((1, 8), (2, 7), (3, 6), (4, 4)):
        for rooms in range(1, most + 1):
            for highest in (size, 6, 40, 9999):
                for _ in range(3):
                    yield rooms, sorted(random.sample(range(1, max(highest, size) + 1), size), reverse=True)


def wrong_pays():
    """Pairs of pays that are wrong, and the index that is told."""
    found = [(value, None) for value in NO_SEQUENCES + ([], ())]
    for value in NO_NUMBERS + (0, -1, 10000):
        found += [([value, 3, 2], 0), ([7, value, 9], 1), ([3, 4, 5, 5, 5, 5, 5, value], 7)]
    return found + [([3, 3], 1), ([5, 4, 5], 2), ([5, 4, 3, 3, 9], 3), ([7, 6, 5, 4, 3, 2, 2], 6), ([1, 9999], 1)]


class TestShares(Case):
    def test_the_example(self):
        self.assertEqual([self.ask(best_quotas, 2, [5, 3]), self.ask(best_share, 2, [5, 3])], [(0, 2), (3, 5)])

    def test_shares_of_all_small_quotas(self):
        for rooms, pays in list(small_cases())[::5]:
            for quotas in all_quotas(rooms, len(pays)):
                share = share_by_words(rooms, pays, quotas)
                self.assertEqual(share_of(rooms, pays, quotas), (share.numerator, share.denominator))
                sums = tuple(sum(pays[i] * quotas[i] for i in range(j, len(pays))) for j in range(len(pays)))
                self.assertEqual(incomes_from(pays, quotas), sums)
                self.assertEqual(class_shares(rooms, pays, quotas), tuple((top, rooms * pay) for top, pay in zip(sums, pays)))

    def test_the_best_quotas_of_all(self):
        for rooms, pays in small_cases():
            best, quotas = best_by_words(rooms, pays)
            self.assertEqual(best_quotas(rooms, pays), quotas)
            self.assertEqual(best_share(rooms, pays), (best.numerator, best.denominator))

    def test_forms(self):
        self.assertEqual(self.ask(share_of, 4, [5, 3], [2, 2]), (1, 2))
        self.assertEqual(self.ask(class_shares, 4, [5, 3], [2, 2]), ((16, 20), (6, 12)))
        self.assertEqual(self.ask(incomes_from, [5, 3], [2, 2]), (16, 6))
        self.assertEqual((self.ask(share_of, 4, [5, 3], [4, 0]), self.ask(share_of, 4, [5, 3], [0, 0])), ((0, 1), (0, 1)))
        self.assertEqual((self.ask(best_quotas, 3, [7]), self.ask(best_share, 3, [7])), ((3,), (1, 1)))
        self.assertEqual((self.ask(best_quotas, 1, [7, 6]), self.ask(best_share, 1, [7, 6])), ((0, 1), (6, 7)))
        self.assertEqual((best_quotas(1, [9999, 1]), best_share(1, [9999, 1])), ((0, 1), (1, 9999)))

    def test_fractions(self):
        for top in range(13):
            for bottom in range(1, 13):
                self.assertEqual(self.ask(lowest, top, bottom), (top // gcd(top, bottom), bottom // gcd(top, bottom)))
                for other in range(1, 13):
                    self.assertIs(is_less((top, bottom), (5, other)), Fraction(top, bottom) < Fraction(5, other))
        self.assertEqual((lowest(0, 7), lowest(10 ** 30, 10 ** 29)), ((0, 1), (10, 1)))
        self.assertEqual((self.ask(is_less, (1, 3), (2, 6)), self.ask(is_less, (1, 3), (2, 5))), (False, True))

    def test_worst_arrivals(self):
        for rooms, pays in list(small_cases())[::3]:
            for quotas in all_quotas(rooms, len(pays)):
                shares = [Fraction(*pair) for pair in class_shares(rooms, pays, quotas)]
                last = max(j for j, share in enumerate(shares) if share == min(shares))
                arrivals = worst_arrivals(rooms, pays, quotas)
                self.assertEqual(arrivals, tuple(j for j in range(len(pays) - 1, last - 1, -1) for _ in range(rooms)))
                gate = Gate(rooms, pays, quotas)
                gate.ask_all(arrivals)
                self.assertEqual(gate.share(), share_of(rooms, pays, quotas))
        self.assertEqual(self.ask(worst_arrivals, 2, [5, 3], [0, 2]), (1, 1, 0, 0))
        # Of classes with the same least share the last one.
        self.assertEqual(self.ask(worst_arrivals, 2, [4, 2], [1, 1]), (1, 1))
        self.assertEqual((class_shares(3, [6, 3, 1], [0, 2, 0]), worst_arrivals(3, [6, 3, 1], [0, 2, 0])),
                         (((6, 18), (6, 9), (0, 3)), (2, 2, 2)))

    def test_are_quotas(self):
        for value in ([0, 0], [3, 2], (5, 0), (0, 5), [1, 1]):
            self.assertIs(self.ask(are_quotas, value, 5, 2), True)
        for value in ANYTHING + ([3, 3], [6, 0], [0, 0, 0], [5], [-1, 2], [True, 1], [1, False], [1, None], [[1], 1], [1.0, 1]):
            right = isinstance(value, (list, tuple)) and len(value) == 2 and all(type(k) is int and k >= 0 for k in value)
            self.assertIs(are_quotas(value, 5, 2), right and sum(value) <= 5)
        self.assertIs(are_quotas([], 0, 0), True)

    def test_the_largest_houses(self):
        random = Random(440)
        for rooms in (199, 200):
            for pays in ([9999, 9998, 9997, 9996, 9995, 9994], [6, 5, 4, 3, 2, 1], [9999, 5, 4, 3, 2, 1],
                         sorted(random.sample(range(1, 10000), 6), reverse=True)):
                quotas, best = best_quotas(rooms, pays), Fraction(*best_share(rooms, pays))
                self.assertEqual((sum(quotas), share_by_words(rooms, pays, quotas)), (rooms, best))
                # Nothing can be taken from a later class, and one room elsewhere gives no more.
                for j in range(1, len(pays)):
                    fewer = quotas[:j] + (quotas[j] - 1,) + quotas[j + 1:]
                    if quotas[j]:
                        self.assertTrue(share_by_words(rooms, pays, fewer) < best)
                    for k in range(len(pays)):
                        moved = list(fewer)
                        moved[k] += 1
                        if min(moved) >= 0:
                            self.assertTrue(share_by_words(rooms, pays, moved) <= best)
                # The relaxed bound: with parts of rooms the share would be 1 / (n - sum of quotients).
                relaxed = 1 / (len(pays) - sum(Fraction(pays[k + 1], pays[k]) for k in range(len(pays) - 1)))
                self.assertTrue(relaxed - Fraction(len(pays), rooms) <= best <= relaxed)

    def test_wrong_rooms(self):
        for function in (best_quotas, best_share):
            for value in NO_NUMBERS + (0, -1, 201):
                self.refuse(BadNumber, (value,), function, value, None)

    def test_wrong_pays(self):
        for function in (best_quotas, best_share):
            for value, index in wrong_pays():
                self.refuse(BadItem, (index,), function, 3, value)
            self.refuse(TooMany, (6,), function, 3, [7, 6, 5, 4, 3, 2, 1])
            self.assertEqual(len(function(200, [6, 5, 4, 3, 2, 1])), 6 if function is best_quotas else 2)
