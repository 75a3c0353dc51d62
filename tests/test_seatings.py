"""Point 14: seatings."""

from itertools import product

from keptnights.kinds import Kinds, slacks
from keptnights.seatings import carries, fewest_steps, fewest_upgrades, is_seating, seat_bar, seating, upgrade_steps
from keptnights.seatings import upgrades
from tests.support import ANYTHING, Case

NAMES = ("z", "m", "a")
CELLS = ((0, 0), (0, 1), (0, 2), (1, 1), (1, 2), (2, 2))


def all_seatings(rooms, wants):
    """All seatings of three kinds, as numbers of guests for the cells."""
    for many in product(*[range(wants[wanted] + 1) for wanted, _ in CELLS]):
        asked = all(sum(n for (w, _), n in zip(CELLS, many) if w == k) == wants[k] for k in range(3))
        if asked and all(sum(n for (_, g), n in zip(CELLS, many) if g == k) <= rooms[k] for k in range(3)):
            yield many


def triples(many):
    return tuple((NAMES[wanted], NAMES[given], n) for (wanted, given), n in zip(CELLS, many) if n)


class TestSeatings(Case):
    def test_all_small_cases(self):
        for rooms in product(range(3), repeat=3):
            kinds = Kinds(list(zip(NAMES, rooms)))
            for wants in product(range(3), repeat=3):
                found = [triples(many) for many in all_seatings(rooms, wants)]
                barring = [NAMES[k] for k in range(3) if slacks(kinds, wants)[k] < 0]
                self.assertEqual(seat_bar(kinds, wants), barring[-1] if barring else None)
                self.assertEqual(bool(barring), not found)
                seats = seating(kinds, wants)
                if not found:
                    self.assertEqual((seats, fewest_upgrades(kinds, wants), fewest_steps(kinds, wants)), (None,) * 3)
                    continue
                self.assertIn(seats, found)
                self.assertTrue(all(is_seating(kinds, wants, some) for some in found))
                fewest = min(upgrades(some) for some in found)
                steps = min(upgrade_steps(kinds, some) for some in found)
                self.assertEqual((fewest_upgrades(kinds, wants), fewest_steps(kinds, wants)), (fewest, steps))
                self.assertEqual((upgrades(seats), upgrade_steps(kinds, seats)), (fewest, steps))

    def test_all_forms(self):
        kinds = Kinds([("a", 2), ("b", 1), ("c", 3)])
        for wants in ((4, 1, 0), (0, 0, 0), (9, 0, 0), (0, 3, 1)):
            for function in (seat_bar, seating, fewest_upgrades, fewest_steps, carries):
                self.ask(function, kinds, wants)
            if seat_bar(kinds, wants) is None:
                seats = seating(kinds, wants)
                self.assertTrue(self.ask(is_seating, kinds, wants, seats))
                self.assertEqual(self.ask(upgrades, seats), fewest_upgrades(kinds, wants))
                self.assertEqual(self.ask(upgrade_steps, kinds, seats), fewest_steps(kinds, wants))

    def test_who_chooses_first(self):
        kinds = Kinds([("z", 1), ("m", 1), ("a", 1), ("b", 2)])
        self.assertEqual(self.ask(seating, kinds, [2, 2, 0, 0]),
                         (("z", "z", 1), ("z", "b", 1), ("m", "m", 1), ("m", "a", 1)))
        self.assertEqual(self.ask(seating, kinds, [4, 0, 0, 1]),
                         (("z", "z", 1), ("z", "m", 1), ("z", "a", 1), ("z", "b", 1), ("b", "b", 1)))
        self.assertEqual(self.ask(seating, kinds, [0, 0, 0, 0]), ())
        self.assertEqual(self.ask(seating, Kinds([]), []), ())

    def test_the_last_kind_that_bars(self):
        kinds = Kinds([("z", 9), ("m", 0), ("a", 0)])
        self.assertEqual(self.ask(seat_bar, kinds, [20, 1, 0]), "m")
        self.assertEqual(self.ask(seat_bar, kinds, [0, 1, 1]), "a")
        self.assertEqual(self.ask(seat_bar, kinds, [20, 0, 0]), "z")
        self.assertIsNone(self.ask(seat_bar, kinds, [9, 0, 0]))

    def test_carries(self):
        kinds = Kinds([("z", 1), ("m", 2), ("a", 0), ("b", 9)])
        self.assertEqual(self.ask(carries, kinds, [4, 0, 1, 3]), (3, 1, 2, 0))
        self.assertEqual(self.ask(carries, kinds, [0, 2, 0, 30]), (0, 0, 0, 21))

    def test_seatings_with_one_thing_changed(self):
        kinds, wants = Kinds([("a", 2), ("b", 1), ("c", 3)]), (3, 1, 1)
        right = [("a", "a", 2), ("a", "c", 1), ("b", "b", 1), ("c", "c", 1)]
        self.assertTrue(is_seating(kinds, wants, right[::-1]))
        self.assertTrue(is_seating(kinds, wants, right[1:] + [("a", "a", 1), ["a", "a", 1]]))
        self.assertFalse(is_seating(kinds, wants, right + [("a", "c", 1)]))
        for k in range(4):
            self.assertFalse(is_seating(kinds, wants, right[:k] + right[k + 1:]))
            for at, values in ((0, ("b", "d", 0, None, True)), (1, ("a", "d", 2, None)), (2, (0, -1, 4, True, "1", None))):
                for value in values:
                    seat = list(right[k])
                    if seat[at] != value or value is True:
                        seat[at] = value
                        self.assertIs(is_seating(kinds, wants, right[:k] + [seat] + right[k + 1:]), False, seat)
        for seat in (None, (), ("a", "a"), ("a", "a", 1, 1), "aaa", ("a", "a", 0)):
            self.assertIs(is_seating(kinds, wants, right + [seat]), False)

    def test_no_kind_gives_more_than_it_has(self):
        kinds = Kinds([("a", 2), ("b", 1)])
        self.assertFalse(is_seating(kinds, (2, 0), [("a", "b", 2)]))
        self.assertFalse(is_seating(kinds, (0, 1), [("b", "a", 1)]))
        self.assertTrue(is_seating(kinds, (2, 0), [("a", "b", 1), ("a", "a", 1)]))

    def test_any_value_as_a_seating(self):
        kinds = Kinds([("a", 2), ("b", 1)])
        for value in ANYTHING:
            self.assertIs(is_seating(kinds, (0, 0), value), value in ([], ()))
            self.assertIs(is_seating(kinds, (1, 0), value), value == [("a", "a", 1)])

    def test_the_greatest_numbers(self):
        kinds = Kinds([(f"k{k}", 400) for k in range(8)])
        self.assertEqual(seating(kinds, [3200] + [0] * 7), tuple(("k0", f"k{k}", 400) for k in range(8)))
        self.assertEqual(fewest_steps(kinds, [3200] + [0] * 7), 400 * 28)
        self.assertEqual(seat_bar(kinds, [3201] + [0] * 7), "k0")
