"""Point 11: exchanges of tails."""

from itertools import product
from random import Random

from keptnights.errors import BadItem
from keptnights.roomplans import is_room_plan
from keptnights.spans import arrival_order
from keptnights.tails import can_exchange, closer_plan, exchanged, is_tail_way, tail_way
from tests.support import ANYTHING, Case, random_span

SPANS = ((0, 3), (1, 2), (2, 4), (3, 5))
PLAN = (0, 1, 1, 0)


def plans_of(spans, rooms):
    return [plan for plan in product(range(rooms), repeat=len(spans)) if is_room_plan(spans, rooms, plan)]


def plain_closer(spans, one, wishes):
    """The plan by the words of the point."""
    plan, kept = tuple(one), {}
    for index, room in wishes:
        morning = spans[index][0]
        if plan[index] != room and can_exchange(spans, plan, morning, plan[index], room):
            tried = exchanged(spans, plan, morning, plan[index], room)
            if all(tried[k] == kept[k] for k in kept):
                plan = tried
        if plan[index] == room:
            kept[index] = room
    return plan


class TestTails(Case):
    def random_spans(self, many):
        random = Random(11)
        for _ in range(many):
            yield [random_span(random, 5) for _ in range(random.randrange(5))]

    def test_one_exchange(self):
        self.assertTrue(self.ask(can_exchange, SPANS, PLAN, 3, 0, 2))
        self.assertFalse(self.ask(can_exchange, SPANS, PLAN, 3, 0, 1))
        self.assertFalse(self.ask(can_exchange, SPANS, PLAN, 2, 0, 1))
        self.assertTrue(self.ask(can_exchange, SPANS, PLAN, 2, 1, 2))
        self.assertEqual(self.ask(exchanged, SPANS, PLAN, 3, 0, 2), (0, 1, 1, 2))
        self.assertEqual(self.ask(exchanged, SPANS, PLAN, 2, 2, 1), (0, 1, 2, 0))
        self.assertEqual(self.ask(exchanged, SPANS, PLAN, 0, 0, 1), (1, 0, 0, 1))
        self.assertEqual(self.ask(exchanged, SPANS, PLAN, 9, 0, 1), PLAN)

    def test_an_exchange_that_can_be_done_gives_a_room_plan(self):
        for spans in self.random_spans(40):
            for plan in plans_of(spans, 3):
                for morning in range(6):
                    for one, two in ((0, 1), (2, 0), (1, 2)):
                        rest = [spans[k] for k in range(len(spans)) if plan[k] in (one, two)]
                        can = not any(first < morning < leave for first, leave in rest)
                        self.assertIs(can_exchange(spans, plan, morning, one, two), can)
                        if can:
                            self.assertTrue(is_room_plan(spans, 3, exchanged(spans, plan, morning, one, two)))

    def test_every_plan_leads_to_every_other_one(self):
        for spans in self.random_spans(25):
            plans = plans_of(spans, 3)
            for one in plans[:12]:
                for other in plans:
                    way = self.ask(tail_way, spans, 3, one, other)
                    self.assertLessEqual(len(way), len(spans))
                    self.assertTrue(self.ask(is_tail_way, spans, 3, one, other, way))
                    present = one
                    for index in arrival_order(spans):
                        if present[index] != other[index]:
                            step, way = way[0], way[1:]
                            self.assertEqual(step, (spans[index][0], present[index], other[index]))
                            self.assertTrue(can_exchange(spans, present, *step))
                            present = exchanged(spans, present, *step)
                    self.assertEqual((present, way), (other, ()))

    def test_ways_with_one_thing_changed(self):
        one, other = (0, 1, 1, 0), (1, 0, 2, 1)
        way = tail_way(SPANS, 3, one, other)
        self.assertTrue(is_tail_way(SPANS, 3, one, other, [list(step) for step in way]))
        self.assertTrue(is_tail_way(SPANS, 3, one, one, ()))
        self.assertFalse(is_tail_way(SPANS, 3, one, other, ()))
        for k in range(len(way)):
            self.assertFalse(is_tail_way(SPANS, 3, one, other, way[:k] + way[k + 1:]))
        for step in ((5, 1, 1), (5, 0, 0), (5, 0, 3), (5, -1, 0), (5, 0, True), (5, 0), (5, 0, 1, 1), (None, 0, 1), (3, 0, 1)):
            self.assertIs(is_tail_way(SPANS, 3, one, one, (step, step)), False)
        self.assertTrue(is_tail_way(SPANS, 3, one, one, ((5, 0, 1), (5, 0, 1))))

    def test_any_value_as_a_way(self):
        for value in ANYTHING:
            self.assertIs(is_tail_way(SPANS, 3, PLAN, PLAN, value), value in ([], ()))

    def test_no_room_plans(self):
        for value in ANYTHING + ((0, 0, 1, 0), (0, 1, 2, 3)):
            self.refuse(BadItem, (0,), tail_way, SPANS, 3, value, value)
            self.refuse(BadItem, (1,), tail_way, SPANS, 3, PLAN, value)
            self.refuse(BadItem, (0,), is_tail_way, SPANS, 3, value, value, None)
            self.refuse(BadItem, (1,), is_tail_way, SPANS, 3, PLAN, value, None)
        self.assertEqual(self.ask(tail_way, [], 0, [], []), ())

    def test_wishes(self):
        random = Random(12)
        for spans in self.random_spans(60):
            if spans:
                for plan in plans_of(spans, 4)[:20]:
                    wishes = [(random.randrange(len(spans)), random.randrange(4)) for _ in range(random.randrange(5))]
                    found = self.ask(closer_plan, spans, plan, wishes)
                    self.assertEqual(found, plain_closer(spans, plan, wishes))
                    self.assertTrue(is_room_plan(spans, 4, found))

    def test_a_wish_that_was_done_is_kept(self):
        spans = ((0, 1), (0, 1))
        self.assertEqual(self.ask(closer_plan, spans, (0, 1), [(0, 1), (1, 1)]), (1, 0))
        self.assertEqual(self.ask(closer_plan, spans, (0, 1), [(0, 0), (1, 0)]), (0, 1))
        self.assertEqual(self.ask(closer_plan, spans, (0, 1), []), (0, 1))

    def test_a_wish_that_a_later_exchange_fulfils_is_not_kept(self):
        spans = ((0, 3), (2, 4), (0, 1), (3, 5))
        plan = (0, 1, 1, 0)
        # The first wish cannot be done; the second one fulfils it; the third one takes it away again.
        self.assertFalse(can_exchange(spans, plan, 2, 1, 0))
        self.assertEqual(closer_plan(spans, plan, [(1, 0), (2, 0)]), (1, 0, 0, 1))
        self.assertEqual(closer_plan(spans, plan, [(1, 0), (2, 0), (1, 2)]), (1, 2, 0, 1))
        self.assertEqual(closer_plan(spans, plan, [(2, 0), (1, 0), (1, 2)]), (1, 0, 0, 1))
