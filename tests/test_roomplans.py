"""Point 9: room plans."""

from itertools import product
from random import Random

from keptnights.loads import load
from keptnights.roomplans import fits_locked, fits_open, free_rooms, is_room_plan, least_rooms, openings, room_plan
from keptnights.roomplans import spans_in_room
from tests.support import ANYTHING, Case, random_span, small_spans


def is_right(spans, plan):
    """Whether spans with a common night have different rooms, by a look at all pairs."""
    return not any(plan[i] == plan[j] and spans[i][0] < spans[j][1] and spans[j][0] < spans[i][1]
                   for i in range(len(spans)) for j in range(i))


def plain_plan(spans, rooms):
    """The room plan by the words of the point."""
    plan = {}
    for index in sorted(range(len(spans)), key=lambda k: (spans[k][0], k)):
        free = [room for room in range(rooms) if not any(
            plan[k] == room and spans[k][0] < spans[index][1] and spans[index][0] < spans[k][1] for k in plan)]
        plan[index] = free[0]
    return tuple(plan[k] for k in range(len(spans)))


class TestRoomPlans(Case):
    def random_cases(self, many):
        random = Random(9)
        for _ in range(many):
            yield [random_span(random, 6) for _ in range(random.randrange(6))]

    def test_the_example(self):
        self.assertEqual(self.ask(room_plan, [(0, 3), (1, 2), (2, 4)], 2), (0, 1, 1))

    def test_all_plans_of_random_spans(self):
        for spans in self.random_cases(40):
            most = max([load(spans, night) for night in range(6)])
            self.assertEqual(self.ask(least_rooms, spans), most)
            for rooms in range(4):
                found = self.ask(room_plan, spans, rooms)
                right = 0
                for plan in product(range(-1, rooms + 1), repeat=len(spans)):
                    inside = all(0 <= room < rooms for room in plan)
                    self.assertIs(is_room_plan(spans, rooms, plan), inside and is_right(spans, plan))
                    right += inside and is_right(spans, plan)
                self.assertEqual(found is not None, right > 0)
                self.assertEqual(found is not None, most <= rooms)
                if found is not None:
                    self.assertEqual(found, plain_plan(spans, rooms))
                    self.assertTrue(self.ask(is_room_plan, spans, rooms, found))

    def test_no_spans(self):
        self.assertEqual(self.ask(least_rooms, []), 0)
        self.assertEqual(self.ask(room_plan, [], 0), ())
        self.assertTrue(self.ask(is_room_plan, [], 0, []))
        self.assertEqual(self.ask(openings, [], 0, 1, 0, 5), ())

    def test_any_value_as_a_plan(self):
        for value in ANYTHING:
            self.assertIs(is_room_plan([(0, 1), (0, 2), (5, 6)], 4, value), False, value)
        for plan in ([0, 1, True], [0, 1], [0, 1, 2, 3], [0, 1, None], [0, 1, 4], [0, 1, -1], [0, 1, "2"], [0, 1, [2]]):
            self.assertIs(is_room_plan([(0, 1), (0, 2), (5, 6)], 4, plan), False)

    def test_rooms_of_a_plan(self):
        for spans in self.random_cases(40):
            plan = room_plan(spans, 5)
            for room in range(5):
                own = sorted(spans[k] for k in range(len(spans)) if plan[k] == room)
                self.assertEqual(self.ask(spans_in_room, spans, plan, room), tuple(own))
            for span in small_spans(6):
                free = [room for room in range(5) if not any(
                    plan[k] == room and set(range(*spans[k])) & set(range(*span)) for k in range(len(spans)))]
                self.assertEqual(self.ask(free_rooms, spans, plan, 5, span), tuple(free))
                self.assertIs(self.ask(fits_locked, spans, plan, 5, span), bool(free))

    def test_what_fits_open(self):
        for spans in self.random_cases(40):
            for rooms in range(4):
                for span in small_spans(6):
                    fits = self.ask(fits_open, spans, rooms, span)
                    self.assertIs(fits, room_plan(spans + [span], rooms) is not None)
                for length in range(1, 5):
                    for first, leave in ((0, 6), (2, 5), (3, 3 + length), (0, 1)):
                        found = [at for at in range(first, leave - length + 1)
                                 if fits_open(spans, rooms, (at, at + length))]
                        self.assertEqual(self.ask(openings, spans, rooms, length, first, leave), tuple(found))

    def test_locked_and_open_differ(self):
        spans = [(0, 1), (1, 2)]
        self.assertTrue(self.ask(fits_open, spans + [(3, 4)], 2, (0, 4)))
        self.assertFalse(self.ask(fits_locked, spans, (0, 1), 2, (0, 2)))
        self.assertTrue(self.ask(fits_locked, spans, (0, 0), 2, (0, 2)))

    def test_the_end_of_the_calendar(self):
        self.assertEqual(self.ask(openings, [(36524, 36525)], 1, 1, 36520, 36525), (36520, 36521, 36522, 36523))
        self.assertEqual(self.ask(openings, [(36524, 36525)], 2, 2, 36522, 36525), (36522, 36523))

    def test_many_spans(self):
        spans = [(k, k + 200) for k in range(5000)]
        plan = room_plan(spans, 200)
        self.assertEqual(plan, tuple(k % 200 for k in range(5000)))
        self.assertTrue(is_room_plan(spans, 200, plan))
        self.assertIsNone(room_plan(spans, 199))
