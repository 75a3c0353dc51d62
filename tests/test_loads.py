"""Point 8: loads."""

from random import Random

from keptnights.loads import first_over, load, load_row, load_steps, nights_sold, over_spans, peak, sums_before
from tests.support import Case, random_span


class TestLoads(Case):
    def check(self, spans, nights):
        loads = [sum(first <= night < leave for first, leave in spans) for night in range(nights + 1)]
        for night in range(nights + 1):
            self.assertEqual(self.ask(load, spans, night), loads[night])
        before = [0] + loads
        steps = [(night, loads[night]) for night in range(nights + 1) if loads[night] != before[night]]
        self.assertEqual(self.ask(load_steps, spans), tuple(steps))
        most = max(loads)
        self.assertEqual(self.ask(peak, spans), (most, loads.index(most)) if spans else (0, None))
        self.assertEqual(self.ask(nights_sold, spans), sum(loads))
        for rooms in range(most + 2):
            over = [night for night in range(nights) if loads[night] > rooms]
            self.assertEqual(self.ask(first_over, spans, rooms), over[0] if over else None)
            found = self.ask(over_spans, spans, rooms)
            self.assertEqual([night for span in found for night in range(*span)], over)
            self.assertTrue(all(one[1] < two[0] for one, two in zip(found, found[1:])))
        for first in range(nights):
            for leave in range(first, nights + 1):
                self.assertEqual(self.ask(load_row, spans, first, leave), tuple(loads[first:leave]))

    def test_random_spans(self):
        random = Random(8)
        for _ in range(60):
            self.check([random_span(random, 6) for _ in range(random.randrange(7))], 6)

    def test_no_spans(self):
        self.check([], 3)
        self.assertEqual(peak([]), (0, None))

    def test_spans_that_touch_make_no_step(self):
        self.assertEqual(self.ask(load_steps, [(0, 2), (2, 4)]), ((0, 1), (4, 0)))
        self.assertEqual(self.ask(over_spans, [(0, 2), (2, 4), (0, 1)], 0), ((0, 4),))
        self.assertEqual(self.ask(over_spans, [(0, 2), (3, 4)], 0), ((0, 2), (3, 4)))

    def test_the_end_of_the_calendar(self):
        spans = [(36524, 36525), (0, 36525)]
        self.assertEqual(self.ask(load_steps, spans), ((0, 1), (36524, 2), (36525, 0)))
        self.assertEqual(self.ask(peak, spans), (2, 36524))
        self.assertEqual(self.ask(over_spans, spans, 1), ((36524, 36525),))
        self.assertEqual(load_row(spans, 36523, 36525), (1, 2))
        self.assertEqual(sum(load_row(spans, 0, 36525)), nights_sold(spans))

    def test_sums_before_nights(self):
        self.assertEqual(sums_before((3, 0, -1)), [0, 3, 3, 2])
        self.assertEqual(sums_before([]), [0])

    def test_many_spans(self):
        spans = [(k, k + 300) for k in range(20000)]
        self.assertEqual(peak(spans), (300, 299))
        self.assertEqual(over_spans(spans, 299), ((299, 20000),))
