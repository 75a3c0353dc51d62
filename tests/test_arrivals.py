"""Point 10: rooms on arrival."""

from itertools import product
from random import Random

from keptnights.arrivals import are_settled, first_stuck, given_rooms, is_given, rooms_free_on
from keptnights.loads import load
from keptnights.roomplans import is_room_plan, room_plan
from keptnights.spans import arrival_order
from tests.support import ANYTHING, NO_NUMBERS, Case, random_span


def plain_given(guests, spans, rooms, choice):
    """The rooms by the words of the point."""
    taken = list(guests)
    plan = {}
    for index in sorted(range(len(spans)), key=lambda k: (spans[k][0], k)):
        night = spans[index][0]
        free = [room for room in range(rooms)
                if not any(other == room and first <= night < leave for (first, leave), other in taken)]
        if not free:
            return None
        plan[index] = free[choice % len(free)]
        taken.append((spans[index], plan[index]))
    return tuple(plan[k] for k in range(len(spans)))


class TestArrivals(Case):
    def random_cases(self, many, night=2):
        """Triples of guests who are settled at a night, spans from it on, and rooms."""
        random = Random(10)
        for _ in range(many):
            rooms = random.randrange(5)
            given = random.sample(range(rooms), random.randint(0, rooms))
            guests = [((random.randint(0, night), random.randint(night + 1, 7)), room) for room in given]
            spans = [tuple(night + end for end in random_span(random, 6)) for _ in range(random.randrange(6))]
            yield guests, spans, rooms

    def test_settled(self):
        guests = [((0, 5), 0), ((2, 3), 2), ((1, 9), 1)]
        self.assertTrue(self.ask(are_settled, 2, guests, 3))
        for night in (0, 1, 3, 5):
            self.assertFalse(self.ask(are_settled, night, guests, 3))
        self.assertFalse(self.ask(are_settled, 2, guests, 2))
        self.assertFalse(self.ask(are_settled, 2, guests + [((2, 3), 1)], 4))
        self.assertFalse(self.ask(are_settled, 2, [((0, 5), -1)], 2))
        self.assertTrue(self.ask(are_settled, 2, [], 0))
        for value in NO_NUMBERS:
            self.assertIs(are_settled(2, [((0, 5), value)], 5), False)

    def test_free_rooms_of_a_night(self):
        taken = [((0, 5), 0), ((2, 3), 2), ((5, 9), 1), ((7, 8), 0)]
        for night in range(10):
            free = [room for room in range(4)
                    if not any(other == room and first <= night < leave for (first, leave), other in taken)]
            self.assertEqual(self.ask(rooms_free_on, taken, 4, night), tuple(free))
        self.assertEqual(self.ask(rooms_free_on, [], 0, 3), ())

    def test_whatever_the_choice(self):
        for guests, spans, rooms in self.random_cases(300):
            together = [span for span, _ in guests] + spans
            fits = max([load(together, night) for night in range(9)]) <= rooms
            for choice in range(5):
                found = self.ask(given_rooms, guests, spans, rooms, choice)
                self.assertEqual(found, plain_given(guests, spans, rooms, choice))
                self.assertEqual(found is not None, fits)
                if found is not None:
                    self.assertTrue(self.ask(is_given, guests, spans, rooms, found))
            self.assertEqual(self.ask(given_rooms, guests, spans, rooms), given_rooms(guests, spans, rooms, 0))
            self.assertEqual(self.ask(first_stuck, guests, spans, rooms) is None, fits)

    def test_the_first_who_is_stuck(self):
        for guests, spans, rooms in self.random_cases(300):
            order = arrival_order(spans)
            stuck = None
            for k in reversed(range(len(order))):
                inside = [span for span, _ in guests] + [spans[index] for index in order[:k + 1]]
                if load(inside, spans[order[k]][0]) > rooms:
                    stuck = order[k]
            self.assertEqual(self.ask(first_stuck, guests, spans, rooms), stuck)
        self.assertEqual(self.ask(first_stuck, [], [(3, 4), (3, 5), (0, 4)], 1), 0)
        self.assertEqual(self.ask(first_stuck, [], [(3, 4), (3, 5), (0, 3)], 1), 1)

    def test_nobody_is_given_two_rooms(self):
        self.assertEqual(self.ask(given_rooms, [((0, 4), 1)], [(4, 5), (2, 6), (2, 3), (3, 4)], 3, 1), (1, 2, 0, 0))
        self.assertEqual(given_rooms([], [(0, 1), (1, 2)], 3, 7), (1, 1))
        self.assertEqual(given_rooms([], [], 0), ())
        self.assertIsNone(given_rooms([], [(0, 1)], 0))

    def test_all_small_plans(self):
        for guests, spans, rooms in self.random_cases(60):
            for plan in product(range(rooms), repeat=len(spans)):
                fits = not any(room == plan[k] and spans[k][0] < leave and first < spans[k][1]
                               for (first, leave), room in guests for k in range(len(spans)))
                self.assertIs(is_given(guests, spans, rooms, plan), fits and is_room_plan(spans, rooms, plan))

    def test_any_value_as_rooms(self):
        for value in ANYTHING:
            self.assertIs(is_given([((0, 2), 1)], [(1, 2), (1, 3), (5, 6)], 4, value), False)
        self.assertIs(is_given([((0, 2), 1)], [(2, 3)], 4, [True]), False)
        self.assertIs(is_given([((0, 2), 1)], [(2, 3)], 4, [1]), True)
        self.assertIs(is_given([((0, 2), 1)], [(1, 3)], 4, [1]), False)

    def test_many_spans(self):
        spans = [(k, k + 300) for k in range(4000)]
        self.assertEqual(given_rooms([], spans, 300), room_plan(spans, 300))
        self.assertIsNone(first_stuck([], spans, 300))
        self.assertEqual(first_stuck([((0, 400), 299)], spans, 300), 299)
