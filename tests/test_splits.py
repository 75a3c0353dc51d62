"""Point 37: sums of cents divided by weights."""

from fractions import Fraction
from itertools import product
from math import floor
from random import Random

from keptnights.splits import even_split, floors_of, greatest_rest_first, is_split, rests_of, split_cents
from tests.support import ANYTHING, Case


def shares_of(total, weights):
    weights = list(weights) if sum(weights) else [1] * len(weights)
    return [Fraction(total * weight, sum(weights)) for weight in weights]


def split_by_words(total, weights):
    if total < 0:
        return tuple(-part for part in split_by_words(-total, weights))
    shares = shares_of(total, weights)
    parts = [floor(share) for share in shares]
    ranked = sorted(range(len(shares)), key=lambda k: (parts[k] - shares[k], k))
    for k in ranked[:total - sum(parts)]:
        parts[k] += 1
    return tuple(parts)


def all_splits(total, weights):
    """All parts that add up to the total, each less than a cent away from its share."""
    shares = shares_of(total, weights)
    near = [[part for part in range(floor(share) - 1, floor(share) + 3) if abs(part - share) < 1] for share in shares]
    return [parts for parts in product(*near) if sum(parts) == total]


class TestSplits(Case):
    def random_cases(self, many):
        random = Random(37)
        for _ in range(many):
            kind = random.choice((1, 3, 9, 10 ** 20))
            weights = [random.randint(0, kind) for _ in range(random.randint(1, 5))]
            yield random.randint(-kind * 9, kind * 9), weights

    def test_the_example(self):
        self.assertEqual(split_cents(100, [1, 1, 1]), (34, 33, 33))

    def test_against_the_words_of_the_point(self):
        for total, weights in self.random_cases(600):
            parts = self.ask(split_cents, total, weights)
            self.assertEqual(parts, split_by_words(total, weights))
            self.assertEqual(sum(parts), total)
            self.assertIs(self.ask(is_split, total, weights, parts), True)
            if total >= 0:
                self.assertIs(self.ask(greatest_rest_first, total, weights, parts), True)

    def test_equal_rests_and_totals_below_zero(self):
        for total, weights, parts in ((1, [1, 1], (1, 0)), (-1, [1, 1], (-1, 0)), (5, [1, 1, 1], (2, 2, 1)),
                                      (-5, [1, 1, 1], (-2, -2, -1)), (2, [1, 2, 2], (0, 1, 1)), (-2, [1, 2, 2], (0, -1, -1)),
                                      (3, [1, 2, 2], (1, 1, 1)), (0, [1, 2], (0, 0)), (7, [0, 3, 0], (0, 7, 0)),
                                      (7, [5], (7,)), (1, [0, 1, 1], (0, 1, 0))):
            self.assertEqual(split_cents(total, weights), parts)

    def test_weights_that_are_all_zero(self):
        for total in (-7, -1, 0, 1, 7):
            for many in (1, 2, 5):
                self.assertEqual(split_cents(total, [0] * many), split_cents(total, [1] * many))
                self.assertEqual(self.ask(even_split, total, many), split_by_words(total, [1] * many))
        self.assertIs(is_split(5, [0, 0], (3, 2)), True)
        self.assertIs(is_split(5, [0, 0], (4, 1)), False)
        self.assertIs(greatest_rest_first(5, [0, 0], (2, 3)), True)

    def test_floors_and_rests_are_lists(self):
        for total, weights in self.random_cases(200):
            if sum(weights) > 0:
                for form in (weights, tuple(weights)):
                    floors, rests = floors_of(total, form), rests_of(total, form)
                    self.assertIs(type(floors), list)
                    self.assertIs(type(rests), list)
                    self.assertEqual((floors_of(weights=form, total=total), rests_of(weights=form, total=total)), (floors, rests))
                    self.assertEqual(floors, [floor(share) for share in shares_of(total, weights)])
                    self.assertEqual([whole * sum(weights) + rest for whole, rest in zip(floors, rests)],
                                     [total * weight for weight in weights])
                    self.assertTrue(all(0 <= rest < sum(weights) for rest in rests))

    def test_all_small_splits(self):
        for total in (-4, -1, 0, 1, 3, 5):
            for weights in ([1], [0, 0], [1, 2], [2, 0, 1], [1, 1, 1], [3, 2, 2]):
                right = all_splits(total, weights)
                for parts in product(range(-4, 6), repeat=len(weights)):
                    self.assertIs(is_split(total, weights, parts), parts in right)
                    self.assertIs(is_split(total, weights, list(parts)), parts in right)

    def test_the_greatest_rests_first(self):
        answers = {True: 0, False: 0}
        for total, weights in self.random_cases(300):
            if total >= 0:
                shares = shares_of(total, weights)
                for parts in all_splits(total, weights):
                    above = [share % 1 for share, part in zip(shares, parts) if part > floor(share)]
                    others = [share % 1 for share, part in zip(shares, parts) if part <= floor(share)]
                    right = not any(one < other for one in above for other in others)
                    answers[right] += 1
                    self.assertIs(self.ask(greatest_rest_first, total, weights, parts), right)
        self.assertTrue(min(answers.values()) > 50)

    def test_any_value_as_a_split(self):
        for value in ANYTHING + ((1.0, 0), ("1", 0), (None, 1), "10", {1: 0, 0: 1}, (True, 0), (1, False)):
            self.assertIs(is_split(1, [1, 1], value), value == (0, 1))
            self.assertIs(is_split(0, [1], value), value == [0])
        self.assertIs(is_split(1, [1, 1], (1, 0, 0)), False)
        self.assertIs(is_split(1, [1, 1], (1,)), False)

    def test_many_weights(self):
        weights = [k * k % 1009 for k in range(20000)]
        parts = split_cents(10 ** 9 + 7, weights)
        self.assertEqual(sum(parts), 10 ** 9 + 7)
        self.assertTrue(is_split(10 ** 9 + 7, weights, parts))
        self.assertTrue(greatest_rest_first(10 ** 9 + 7, weights, parts))
