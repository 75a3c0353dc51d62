"""Point 49: waiting lists."""

from random import Random

from keptnights.errors import BadName, BadSpan, Taken, Unknown
from keptnights.waiting import WaitingList, taken_in_turn
from tests.support import NO_NAMES, NO_SPANS, Case, random_span
from tests.trials import loads


def taken_by_words(rooms, spans):
    taken = []
    for index, (first, leave) in enumerate(spans):
        nights = range(first, leave)
        inside = loads([spans[k] for k in taken], nights)
        if all(many < (rooms[night] if night < len(rooms) else 0) for night, many in zip(nights, inside)):
            taken.append(index)
    return tuple(taken)


def state_of(waiting):
    return (waiting.names, waiting.inside(), waiting.waiting(), len(waiting), [waiting.free_at(k) for k in range(4)])


class TestWaitingLists(Case):
    def test_taken_in_turn(self):
        random = Random(49)
        for _ in range(300):
            rooms = [random.randrange(4) for _ in range(5)]
            spans = [random_span(random, 5) for _ in range(random.randrange(8))]
            self.assertEqual(self.ask(taken_in_turn, rooms, spans), taken_by_words(rooms, spans))
        self.assertEqual((taken_in_turn([], []), taken_in_turn([1], [(0, 1), (0, 1)]), taken_in_turn([0], [(0, 1)])), ((), (0,), ()))

    def test_against_the_words_of_the_point(self):
        random = Random(490)
        later = 0
        for _ in range(150):
            rooms = [random.randrange(3) for _ in range(5)]
            waiting, requests = WaitingList(rooms), []
            for step in range(25):
                names = [name for name, _ in requests]
                before = [names[k] for k in taken_by_words(rooms, [span for _, span in requests])]
                if requests and random.random() < 0.4:
                    gone = random.choice(names)
                    requests = [request for request in requests if request[0] != gone]
                    names.remove(gone)
                    inside = [names[k] for k in taken_by_words(rooms, [span for _, span in requests])]
                    found = waiting.give_up(gone)
                    self.assertEqual(found, tuple(name for name in inside if name not in before))
                    later += bool(found)
                else:
                    name, span = f"n{step}", random_span(random, 5, 3)
                    requests.append((name, span))
                    names.append(name)
                    taken = taken_by_words(rooms, [span for _, span in requests])
                    self.assertIs(waiting.ask(name, span), len(requests) - 1 in taken)
                    inside = [names[k] for k in taken]
                self.assertEqual((waiting.names, waiting.inside(), len(waiting)), (tuple(names), tuple(inside), len(names)))
                self.assertEqual(waiting.waiting(), tuple(name for name in names if name not in inside))
                spans = [span for name, span in requests if name in inside]
                for night, many in enumerate(loads(spans, range(5))):
                    self.assertEqual(self.ask(waiting.free_at, night), rooms[night] - many)
                for number, (name, span) in enumerate(requests):
                    ahead = [one for one in names[:number] if one not in inside]
                    self.assertEqual(self.ask(waiting.place, name), None if name in inside else len(ahead))
                    others = loads([span for one, span in requests[:number] if one in inside], range(*span))
                    barred = tuple(night for night, many in zip(range(*span), others) if rooms[night] <= many)
                    self.assertEqual(self.ask(waiting.barred_by, name), barred)
                    self.assertIs(barred == (), name in inside)
        self.assertTrue(later > 60)

    def test_requests_that_give_up(self):
        waiting = WaitingList([1, 1, 1])
        self.assertEqual([waiting.ask(*request) for request in (("a", (0, 1)), ("b", (0, 3)), ("c", (1, 3)), ("d", [2, 3]))],
                         [True, False, True, False])
        self.assertEqual((waiting.inside(), waiting.waiting(), waiting.place("b"), waiting.place("d")), (("a", "c"), ("b", "d"), 0, 1))
        self.assertEqual((waiting.barred_by("b"), waiting.barred_by("d"), waiting.barred_by("a")), ((0,), (2,), ()))
        # The request ahead comes in, and takes the room from one that was inside.
        self.assertEqual(waiting.give_up("a"), ("b",))
        self.assertEqual((waiting.inside(), waiting.waiting(), waiting.place("d")), (("b",), ("c", "d"), 1))
        self.assertEqual(waiting.give_up(name="d"), ())
        self.assertEqual((waiting.give_up("b"), waiting.give_up("c"), len(waiting), waiting.names), (("c",), (), 0, ()))

    def test_nights_without_rooms(self):
        waiting = WaitingList((1, 0))
        self.assertEqual([waiting.ask("a", (1, 2)), waiting.ask("b", (0, 2)), waiting.ask("c", (0, 1))], [False, False, True])
        self.assertEqual((waiting.barred_by("a"), waiting.barred_by("b"), waiting.free_at(0), waiting.free_at(1)), ((1,), (1,), 0, 0))
        # Behind the last night there are no rooms either.
        self.assertEqual((waiting.ask("d", (1, 4)), waiting.barred_by("d"), waiting.free_at(2)), (False, (1, 2, 3), 0))
        self.assertEqual(WaitingList([]).inside(), ())

    def test_copies(self):
        rooms, span = [1, 1], [0, 1]
        waiting = WaitingList(rooms)
        waiting.ask("a", span)
        rooms[1] = 5
        span[1] = 2
        self.assertEqual((waiting.free_at(1), waiting.free_at(0)), (1, 0))

    def test_errors(self):
        waiting = WaitingList([1, 2, 1])
        waiting.ask("a", (0, 2))
        waiting.ask("b", (1, 3))
        before = state_of(waiting)
        for value in NO_NAMES:
            self.refuse(BadName, (value,), waiting.ask, value, None)
        for value in NO_SPANS:
            self.refuse(BadSpan, (value,), waiting.ask, "a", value)
            self.refuse(BadSpan, (value,), waiting.ask, span=value, name="c")
        self.refuse(Taken, ("a",), waiting.ask, "a", (0, 1))
        for function in (waiting.give_up, waiting.place, waiting.barred_by):
            self.refuse(Unknown, ("c",), function, "c")
        self.assertEqual(state_of(waiting), before)

    def test_many_requests(self):
        random = Random(491)
        waiting = WaitingList([20] * 90)
        for number in range(200):
            waiting.ask(f"n{number}", random_span(random, 90, 14))
        spans = {name: span for name, span in waiting.requests}
        inside = loads([spans[name] for name in waiting.inside()], range(90))
        self.assertEqual([waiting.free_at(night) for night in range(90)], [20 - many for many in inside])
        for number in range(0, 200, 3):
            waiting.give_up(f"n{number}")
        self.assertEqual(len(waiting), 133)
