"""Point 30: the fewest steps after which a night is oversold."""

from random import Random

from keptnights.breaking import breaking_steps, breaking_steps_at, breaks, do_step, gain_steps
from keptnights.errors import Refused
from keptnights.standing import breakable_night, is_oversold
from keptnights.wires import Wire
from tests.support import Case, small_spans
from tests.test_wires import random_wire, used_wire


def later_states(channels, state, nights):
    """All states behind one step: for each channel the number of its table and its sales."""
    for k, (name, told) in enumerate(channels):
        has, sales = state[k]
        if has + 1 < len(told):
            yield state[:k] + ((has + 1, sales),) + state[k + 1:]
        for first, leave in small_spans(nights):
            if all(sales[night] < told[has][night] for night in range(first, leave)):
                more = tuple(many + (first <= night < leave) for night, many in enumerate(sales))
                yield state[:k] + ((has, more),) + state[k + 1:]


def fewest_steps(wire, nights_to_break):
    """The fewest steps after which one of these nights is oversold, by a trial of all steps, or None."""
    rooms, own, rows = wire.state()
    channels = [(name, told) for name, (told, *_) in rows]
    states = {tuple((row[1], row[3]) for _, row in rows): True}
    seen, steps = dict(states), 0
    while states:
        for state in states:
            if any(own[night] + sum(sales[night] for _, sales in state) > rooms[night] for night in nights_to_break):
                return steps
        found = {later: True for state in states for later in later_states(channels, state, len(rooms))}
        states = {state: True for state in found if state not in seen}
        seen.update(states)
        steps += 1
    return None


def copy_of(wire):
    """A wire with the same rooms, tables, sales and arrivals, as far as steps of channels are concerned."""
    rooms, own, rows = wire.state()
    made = Wire(rooms, [(name, row[0][0]) for name, row in rows])
    made.own = own
    for name, (told, has, _, sales, _, _) in rows:
        for table in told[1:]:
            made.tell(name, table)
        line = made.line(name)
        line.has, line.sales = has, sales
    return made


class TestBreaking(Case):
    def random_wires(self, many, seed=30):
        random = Random(seed)
        for _ in range(many):
            yield random_wire(random, 2, 3, 14, 4)

    def test_against_all_steps(self):
        lengths = {}
        for wire in self.random_wires(250):
            before = wire.state()
            nights = range(len(wire.rooms))
            for night in nights:
                steps = self.ask(breaking_steps_at, wire, night)
                self.check_steps(wire, steps, [night])
                lengths[None if steps is None else len(steps)] = True
            steps = self.ask(breaking_steps, wire)
            self.check_steps(wire, steps, nights)
            self.assertIs(steps is None, breakable_night(wire) is None)
            self.assertEqual(wire.state(), before)
        self.assertTrue(len(lengths) >= 6 and None in lengths and 0 in lengths, lengths)

    def check_steps(self, wire, steps, nights):
        fewest = fewest_steps(wire, nights)
        self.assertEqual(None if steps is None else len(steps), fewest)
        if steps is not None:
            other = copy_of(wire)
            self.assertEqual(fewest_steps(other, nights), fewest)
            self.assertIs(breaks(other, steps), True)
            _, own, rows = other.state()
            sold = [own[night] + sum(row[3][night] for _, row in rows) - wire.rooms[night] for night in nights]
            self.assertTrue(max(sold) > 0)

    def test_gain_steps(self):
        longest = 0
        for wire in self.random_wires(200, 31):
            for name, (told, has, _, sales, _, _) in wire.state()[2]:
                for night in range(len(wire.rooms)):
                    most = [max(0, max(table[night] for table in told[has:has + more + 1]) - sales[night])
                            for more in range(len(told) - has)]
                    found = [(more, many) for more, many in enumerate(most) if more == 0 or many > most[more - 1]]
                    self.assertEqual(gain_steps(wire.line(name), night), tuple(found))
                    self.assertEqual(gain_steps(night=night, line=wire.line(name)), tuple(found))
                    longest = max(longest, len(found))
        self.assertTrue(longest > 1)

    def test_an_example(self):
        wire = Wire([4], [("a", [1]), ("b", [1])])
        for name, limits in (("a", (2, 4, 0, 3)), ("b", (1, 1, 5))):
            for limit in limits:
                wire.tell(name, [limit])
        self.assertEqual(gain_steps(wire.line("a"), 0), ((0, 1), (1, 2), (2, 4)))
        self.assertEqual(gain_steps(wire.line("b"), 0), ((0, 1), (3, 5)))
        steps = (("arrive", "a"),) * 2 + (("sell", "a", (0, 1)),) * 4 + (("sell", "b", (0, 1)),)
        self.assertEqual((breaking_steps(wire), breaking_steps_at(wire, 0)), (steps, steps))
        self.assertIs(breaks(wire, steps), True)
        self.assertEqual((breaking_steps(wire), breaking_steps_at(wire, 0)), ((), ()))
        self.assertEqual(gain_steps(wire.line("a"), 0), ((0, 0),))

    def test_oversold_already_or_never(self):
        wire = used_wire()
        self.assertTrue(is_oversold(wire))
        self.assertEqual(breaking_steps(wire), ())
        self.assertEqual((breaking_steps_at(wire, 1), breaking_steps_at(wire, 2)), ((), (("sell", "web", (2, 3)),) * 2))
        for wire in (Wire([], []), Wire([0, 3], []), Wire([1], [("a", [1])])):
            self.assertIsNone(breaking_steps(wire))
            self.assertEqual([breaking_steps_at(wire, night) for night in range(len(wire.rooms))], [None] * len(wire.rooms))
        wire = Wire([5, 0], [("a", [1, 1])])
        self.assertEqual((breaking_steps_at(wire, 0), breaking_steps(wire)), (None, (("sell", "a", (1, 2)),)))
        wire.sell_own((0, 1), 6)
        self.assertEqual((breaking_steps_at(wire, 0), breaking_steps(wire)), ((), ()))

    def test_one_step(self):
        wire, other = Wire([3], [("a", [1])]), Wire([3], [("a", [1])])
        wire.tell("a", [2]), other.tell("a", [2])
        do_step(wire, ("arrive", "a")), other.arrive("a")
        do_step(wire=wire, step=["sell", "a", [0, 1]]), other.sell("a", (0, 1))
        self.assertEqual(wire, other)
        for step, fields in ((("arrive", "a"), ("nothing", None)), (("sell", "a", (0, 1)), ("limit", 0))):
            if step[0] == "sell":
                wire.sell("a", (0, 1)), other.sell("a", (0, 1))
            self.refuse(Refused, fields, do_step, wire, step)
            self.assertEqual(wire, other)

    def test_breaks(self):
        sell = ("sell", "a", (0, 1))
        for steps, answer, done in (([], False, 0), ([sell], False, 1), ([sell] * 2, False, 2), ([sell] * 3, True, 3),
                                    ([sell] * 4, False, 3), ([("arrive", "a"), sell], False, 0),
                                    ([sell, ("arrive", "a"), sell, sell], False, 1)):
            for form in (steps, tuple(steps), [list(step) for step in steps]):
                wire = Wire([2], [("a", [3])])
                self.assertIs(breaks(wire, form), answer)
                self.assertEqual(wire.state()[2][0][1][3], (done,))
        wire = Wire([0], [("a", [3])])
        wire.sell_own((0, 1))
        self.assertIs(breaks(wire=wire, steps=()), True)
        self.assertIs(breaks(wire, [("arrive", "a")]), False)

    def test_the_largest_wire(self):
        random = Random(300)
        names = [f"c{k}" for k in range(6)]
        wire = Wire([400] * 30, [(name, [0] * 30) for name in names])
        for name in names:
            for k in range(120):
                wire.tell(name, [min(400, k + random.randrange(3)) for _ in range(30)])
        steps = breaking_steps(wire)
        self.assertEqual(len(steps), min(len(breaking_steps_at(wire, night)) for night in range(30)))
        self.assertTrue(breaks(wire, steps))
