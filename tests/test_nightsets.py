"""Point 7: sets of nights."""

from itertools import combinations

from keptnights.dates import weekday
from keptnights.errors import BadItem, TooMany
from keptnights.nightsets import Nights
from tests.support import NO_NUMBERS, NO_SEQUENCES, NO_SPANS, Case, small_spans


def nights_in(spans):
    return {night for first, leave in spans for night in range(first, leave)}


class TestNights(Case):
    def check(self, made, nights):
        """All that a set tells of its nights."""
        self.assertEqual(list(made), sorted(nights))
        self.assertEqual(len(made), len(nights))
        self.assertEqual(nights_in(made.spans), nights)
        self.assertIsInstance(made.spans, tuple)
        for one, two in zip(made.spans, made.spans[1:]):
            self.assertLess(one[1], two[0])
        self.assertEqual(made.gaps(), tuple((one[1], two[0]) for one, two in zip(made.spans, made.spans[1:])))
        for night in range(8):
            self.assertIs(night in made, night in nights)

    def test_all_small_sets(self):
        spans = small_spans(4)
        for size in range(4):
            for some in combinations(spans, size):
                made = self.ask(Nights, some)
                self.check(made, nights_in(some))
                for span in small_spans(5):
                    self.assertIs(self.ask(made.covers, span), nights_in([span]) <= nights_in(some))

    def test_two_sets(self):
        sets = [(), ((0, 1),), ((0, 3), (5, 7)), ((1, 2), (2, 3)), ((3, 5),), ((0, 7),), ((6, 7), (0, 1)), ((2, 6),)]
        for one in sets:
            for two in sets:
                left, right = Nights(one), Nights(two)
                self.check(left | right, nights_in(one) | nights_in(two))
                self.check(left & right, nights_in(one) & nights_in(two))
                self.check(left - right, nights_in(one) - nights_in(two))
                self.assertIs(left == right, nights_in(one) == nights_in(two))
                self.assertIs(left != right, nights_in(one) != nights_in(two))
                self.check(left, nights_in(one))

    def test_not_equal_to_other_kinds(self):
        for value in (None, (), [], ((0, 1),), 1, {0}, "nights", True):
            self.assertFalse(Nights([]) == value)
            self.assertTrue(Nights([(0, 1)]) != value)

    def test_other_values_are_not_in_it(self):
        made = Nights([(0, 3)])
        for value in NO_NUMBERS + ((0, 3), 36525, -1):
            self.assertNotIn(value, made)

    def test_weekdays(self):
        made = Nights([(0, 20), (36500, 36525)])
        for days in ((), (0,), (5, 6), (6, 5, 5), tuple(range(7))):
            found = self.ask(made.on_weekdays, days)
            self.assertEqual(list(found), [night for night in made if weekday(night) in days])
        self.assertEqual(made.on_weekdays(list(range(7))), made)

    def test_copies(self):
        spans = [[0, 2]]
        made = Nights(spans)
        spans[0][1] = 9
        spans.append([20, 30])
        self.assertEqual(made.spans, ((0, 2),))

    def test_bad_items(self):
        for value in NO_SEQUENCES:
            self.refuse(BadItem, (None,), Nights, value)
        for value in NO_SPANS:
            self.refuse(BadItem, (2,), Nights, [(0, 1), (0, 1), value, None])

    def test_at_most_400_spans(self):
        many = [[2 * k, 2 * k + 1] for k in range(400)]
        made = self.ask(Nights, many)
        self.assertEqual(len(made.spans), 400)
        self.assertEqual(len(made.gaps()), 399)
        self.assertEqual((made | Nights([(0, 800)])).spans, ((0, 800),))
        self.refuse(TooMany, (400,), Nights, many + [(0, 1)])
        self.refuse(BadItem, (400,), Nights, many + [(1, 0)])

    def test_the_whole_calendar(self):
        made = Nights(spans=[(0, 36525)])
        self.assertEqual(len(made), 36525)
        self.assertEqual((made - Nights([(5, 36524)])).spans, ((0, 5), (36524, 36525)))
        self.assertTrue(made.covers((36524, 36525)))
