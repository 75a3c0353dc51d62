"""Points 2, 3 and 4: whole numbers, names, sequences, nights and spans."""

from keptnights import checks
from keptnights.errors import BadItem, BadName, BadNumber, TooMany
from tests.support import NO_NAMES, NO_NUMBERS, NO_SEQUENCES, NO_SPANS, Case


class TestChecks(Case):
    def test_whole_numbers(self):
        for value in (0, 1, -1, 10 ** 40):
            self.assertIs(checks.is_whole(value), True)
        for value in (True, False, None, 1.0, "1", [1]):
            self.assertIs(checks.is_whole(value), False)

    def test_names(self):
        for name in ("a", "z9", "abcdefghijkl", "a00000000000", "q"):
            self.assertIs(checks.is_name(name), True)
            checks.want_name(name)
        for value in NO_NAMES:
            self.assertIs(checks.is_name(value), False, value)
            self.refuse(BadName, (value,), checks.want_name, value)

    def test_figures(self):
        for text in ("0", "0123456789"):
            self.assertIs(checks.are_figures(text), True)
        for text in ("", " ", "-1", "1a", "\u0661", "\u00b2", "1.0", "1_0"):
            self.assertIs(checks.are_figures(text), False)

    def test_sequences(self):
        self.assertTrue(checks.is_sequence([]) and checks.is_sequence((1,)))
        for value in NO_SEQUENCES:
            self.assertIs(checks.is_sequence(value), False)

    def test_nights(self):
        for value in (0, 1, 36524):
            self.assertIs(checks.is_night(value), True)
        for value in NO_NUMBERS + (-1, 36525):
            self.assertIs(checks.is_night(value), False)

    def test_spans(self):
        for value in ((0, 1), [0, 36525], (36524, 36525), [7, 9]):
            self.assertIs(checks.is_span(value), True)
        for value in NO_SPANS:
            self.assertIs(checks.is_span(value), False, value)

    def test_bounds_of_numbers(self):
        checks.want_number(3, 3, 3)
        for value in NO_NUMBERS + (2, 4):
            self.refuse(BadNumber, (value,), checks.want_number, value, 3, 3)

    def test_items_before_their_number(self):
        many = [(0, 1)] * 4
        self.assertEqual(checks.copied_spans(many, 4), tuple(many))
        self.refuse(TooMany, (3,), checks.copied_spans, many, 3)
        self.refuse(BadItem, (4,), checks.copied_spans, many + [(1, 1), None], 3)
        for value in NO_SEQUENCES:
            self.refuse(BadItem, (None,), checks.copied_spans, value, 3)
        for value in NO_SPANS:
            self.refuse(BadItem, (1,), checks.copied_spans, [(0, 1), value], 3)

    def test_copies(self):
        spans = [[0, 1], [1, 2]]
        copied = checks.copied_spans(spans, 2)
        spans[0][0] = 9
        spans.pop()
        self.assertEqual(copied, ((0, 1), (1, 2)))

    def test_tuples_at_every_level(self):
        self.assertEqual(checks.as_tuples([1, [2, ([3], None)], {4: [5]}]), (1, (2, ((3,), None)), {4: [5]}))
        for value in (None, 3, "ab", ()):
            self.assertIs(checks.as_tuples(value), value)

    def test_different_numbers(self):
        for value in ([], (), [2, 0], (0, 1, 2)):
            self.assertIs(checks.are_different_below(value, 3), True)
        for value in ([0, 0], (0, 3), [-1], [True], ["0"], [None], [[0]], "01", None, 3, {0: 1}):
            self.assertIs(checks.are_different_below(value, 3), False)

    def test_the_first_name_that_stands_twice(self):
        for names, first in (([], None), (["a", "b"], None), (["a", "b", "b"], "b"), (["a", "b", "b", "a"], "a")):
            self.assertEqual(checks.first_twice(names), first)
