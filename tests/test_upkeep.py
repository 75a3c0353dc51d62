"""Point 12: upkeep."""

from itertools import product
from random import Random

from keptnights.upkeep import is_upkeep_bar, is_upkeep_plan, latest_plan, spare_nights, upkeep_bar, upkeep_plan
from tests.support import ANYTHING, Case, random_span, small_spans


def is_right(counts, jobs, plan):
    return (all(first <= night < leave for (first, leave), night in zip(jobs, plan))
            and all(plan.count(night) <= counts[night] for night in plan))


def plain_plan(counts, jobs, nights, key):
    """The plan by the words of the point."""
    plan = {}
    for night in nights:
        open_jobs = [k for k in range(len(jobs)) if k not in plan and jobs[k][0] <= night < jobs[k][1]]
        for k in sorted(open_jobs, key=key)[:counts[night]]:
            plan[k] = night
    return tuple(plan[k] for k in range(len(jobs))) if len(plan) == len(jobs) else None


class TestUpkeep(Case):
    def random_cases(self, many):
        random = Random(12)
        for _ in range(many):
            size = random.randint(1, 5)
            counts = [random.choice((0, 0, 1, 1, 2)) for _ in range(size)]
            yield counts, [random_span(random, size, 3) for _ in range(random.randrange(6))]

    def test_all_plans(self):
        for counts, jobs in self.random_cases(300):
            right = [plan for plan in product(range(len(counts)), repeat=len(jobs)) if is_right(counts, jobs, plan)]
            found = self.ask(upkeep_plan, counts, jobs)
            self.assertEqual(found is not None, bool(right))
            self.assertEqual(found, plain_plan(counts, jobs, range(len(counts)), lambda k: (jobs[k][1], k)))
            latest = self.ask(latest_plan, counts, jobs)
            backwards = range(len(counts))[::-1]
            self.assertEqual(latest, plain_plan(counts, jobs, backwards, lambda k: (-jobs[k][0], k)))
            for plan in (found, latest):
                if plan is not None:
                    self.assertIn(plan, right)
                    self.assertTrue(self.ask(is_upkeep_plan, counts, jobs, plan))

    def test_all_values_of_a_plan(self):
        for counts, jobs in self.random_cases(30):
            for plan in product(range(-1, len(counts) + 1), repeat=len(jobs)):
                inside = all(0 <= night < len(counts) for night in plan)
                self.assertIs(is_upkeep_plan(counts, jobs, plan), inside and is_right(counts, jobs, plan))

    def test_bars(self):
        for counts, jobs in self.random_cases(300):
            bars = []
            for span in small_spans(len(counts)):
                within = sum(span[0] <= first and leave <= span[1] for first, leave in jobs)
                bar = within > sum(counts[night] for night in range(*span))
                self.assertIs(self.ask(is_upkeep_bar, counts, jobs, span), bar)
                if bar and span[0] in [job[0] for job in jobs] and span[1] in [job[1] for job in jobs]:
                    bars.append(span)
            self.assertEqual(self.ask(upkeep_bar, counts, jobs), min(bars, default=None))
            self.assertEqual(upkeep_plan(counts, jobs) is None, bool(bars))

    def test_spare_nights(self):
        for counts, jobs in self.random_cases(300):
            spare = []
            for night in range(len(counts)):
                less = counts[:night] + [counts[night] - 1] + counts[night + 1:]
                if counts[night] > 0 and upkeep_plan(less, jobs) is not None:
                    spare.append(night)
            self.assertEqual(self.ask(spare_nights, counts, jobs), tuple(spare))

    def test_no_jobs(self):
        self.assertEqual(self.ask(upkeep_plan, [], []), ())
        self.assertEqual(self.ask(latest_plan, [0, 0], []), ())
        self.assertTrue(self.ask(is_upkeep_plan, [], [], []))
        self.assertIsNone(self.ask(upkeep_bar, [0], []))
        self.assertEqual(self.ask(spare_nights, [0, 2, 1], []), (1, 2))
        self.assertEqual(self.ask(spare_nights, [], []), ())

    def test_ties_go_by_indexes(self):
        jobs = [(0, 3), (0, 3), (1, 3)]
        self.assertEqual(self.ask(upkeep_plan, [1, 1, 1], jobs), (0, 1, 2))
        self.assertEqual(self.ask(latest_plan, [1, 1, 1], jobs), (1, 0, 2))
        self.assertEqual(self.ask(latest_plan, [0, 1, 1, 1], [(1, 4)] * 3), (3, 2, 1))

    def test_any_value_as_a_plan(self):
        for value in ANYTHING:
            self.assertIs(is_upkeep_plan([9, 9, 9], [(0, 1), (1, 3), (0, 3)], value), False)
        for value in ([0, 1, True], [0, 1, 3], [0, 1], [0, 1, 2, 2], [0, 1, -1], [1, 1, 1], [0, 0, 0], [0, 1, "1"]):
            self.assertIs(is_upkeep_plan([9, 9, 9], [(0, 1), (1, 3), (0, 3)], value), False)
        self.assertIs(is_upkeep_plan([9, 9, 9], [(0, 1), (1, 3), (0, 3)], [0, 1, 1]), True)
        self.assertIs(is_upkeep_plan([9, 1, 9], [(0, 1), (1, 3), (0, 3)], [0, 1, 1]), False)

    def test_the_whole_calendar(self):
        jobs = [(first, first + 30) for first in range(0, 36400, 25)] * 2
        counts = [k % 7 // 6 for k in range(36525)]
        plan = upkeep_plan(counts, jobs)
        self.assertTrue(is_upkeep_plan(counts, jobs, plan))
        self.assertTrue(is_upkeep_plan(counts, jobs, latest_plan(counts, jobs)))
        self.assertIsNone(upkeep_bar(counts, jobs))
        self.assertGreater(len(spare_nights(counts, jobs)), 1000)
