"""Points 3 and 6: spans."""

from keptnights.spans import are_apart, arrival_order, has_night, hull, is_within, longer, meeting, merged_spans
from keptnights.spans import nights_of, sorted_spans, span_length, turning_nights
from tests.support import Case, small_spans


class TestSpans(Case):
    def test_all_pairs_of_small_spans(self):
        for one in small_spans(5):
            nights = set(range(one[0], one[1]))
            self.assertEqual(self.ask(span_length, one), len(nights))
            self.assertEqual(self.ask(nights_of, one), tuple(sorted(nights)))
            for night in range(7):
                self.assertIs(self.ask(has_night, one, night), night in nights)
            for two in small_spans(5):
                others = set(range(two[0], two[1]))
                common = sorted(nights & others)
                self.assertIs(self.ask(is_within, one, two), nights <= others)
                self.assertIs(self.ask(are_apart, one, two), not common)
                self.assertEqual(self.ask(meeting, one, two), (common[0], common[-1] + 1) if common else None)

    def test_the_whole_calendar(self):
        self.assertEqual(self.ask(span_length, (0, 36525)), 36525)
        self.assertEqual(nights_of((36523, 36525)), (36523, 36524))
        self.assertTrue(has_night((0, 36525), 36524))
        self.assertFalse(has_night((0, 36525), 36525))

    def test_orders(self):
        spans = [(5, 6), (0, 9), (5, 5 + 3), (0, 2), (5, 6)]
        self.assertEqual(self.ask(arrival_order, spans), (1, 3, 0, 2, 4))
        self.assertEqual(self.ask(sorted_spans, spans), ((0, 2), (0, 9), (5, 6), (5, 6), (5, 8)))
        self.assertEqual(self.ask(turning_nights, spans), (0, 2, 5, 6, 8, 9))
        self.assertEqual(self.ask(hull, spans), (0, 9))

    def test_lists_and_tuples_together(self):
        self.assertEqual(sorted_spans([[3, 4], (1, 2), [1, 1 + 5]]), ((1, 2), (1, 6), (3, 4)))
        self.assertEqual(hull(([3, 4], (1, 2))), (1, 4))

    def test_no_spans(self):
        for function in (arrival_order, sorted_spans, turning_nights, merged_spans):
            self.assertEqual(self.ask(function, []), ())
        self.assertIsNone(self.ask(hull, []))

    def test_longer(self):
        self.assertEqual(self.ask(longer, (3, 5), 0), (3, 5))
        self.assertEqual(self.ask(longer, (3, 5), 7), (3, 12))

    def test_merged(self):
        spans = [(7, 9), (0, 2), (2, 3), (8, 12), (5, 6), (8, 9), (0, 1)]
        self.assertEqual(self.ask(merged_spans, spans), ((0, 3), (5, 6), (7, 12)))
