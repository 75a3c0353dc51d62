"""Points 13 and 14: kinds of rooms and what guests leave of them."""

from itertools import product

from keptnights.errors import BadItem, Taken, TooMany, Unknown
from keptnights.kinds import Kinds, over_guests, slacks, spare_rooms
from tests.support import NO_NAMES, NO_NUMBERS, NO_SEQUENCES, Case

PAIRS = (("plain", 3), ("sea", 0), ("suite", 400))


class TestKinds(Case):
    def test_a_chain(self):
        kinds = self.ask(Kinds, PAIRS)
        self.assertEqual(kinds.pairs, PAIRS)
        self.assertEqual(kinds.names, ("plain", "sea", "suite"))
        self.assertEqual(kinds.room_counts, (3, 0, 400))
        self.assertEqual((len(kinds), list(kinds)), (3, list(PAIRS)))
        self.assertEqual([self.ask(kinds.place, name) for name in kinds.names], [0, 1, 2])

    def test_no_kinds(self):
        kinds = self.ask(Kinds, [])
        self.assertEqual((kinds.pairs, kinds.names, kinds.room_counts, len(kinds), list(kinds)), ((), (), (), 0, []))
        self.assertEqual(self.ask(slacks, kinds, []), ())

    def test_names_in_it(self):
        kinds = Kinds(PAIRS)
        self.assertTrue("sea" in kinds and "plain" in kinds)
        for value in NO_NAMES + NO_NUMBERS + ("other", ("sea", 0), 0, kinds):
            self.assertNotIn(value, kinds)
            self.refuse(Unknown, (value,), kinds.place, value)
            self.refuse(Unknown, (value,), kinds.without_rooms, value, 1)

    def test_equal(self):
        self.assertTrue(Kinds(PAIRS) == Kinds([list(pair) for pair in PAIRS]))
        for other in (Kinds(PAIRS[::-1]), Kinds(PAIRS[:2]), Kinds([("plain", 3), ("sea", 0), ("suite", 399)]), PAIRS, None):
            self.assertFalse(Kinds(PAIRS) == other)
            self.assertTrue(Kinds(PAIRS) != other)

    def test_copies(self):
        pairs = [["a", 1], ["b", 2]]
        kinds = Kinds(pairs)
        pairs[0][1] = 7
        pairs.pop()
        self.assertEqual(kinds.pairs, (("a", 1), ("b", 2)))

    def test_without_rooms(self):
        kinds = Kinds(PAIRS)
        self.assertEqual(self.ask(kinds.without_rooms, "plain", 2).pairs, (("plain", 1), ("sea", 0), ("suite", 400)))
        self.assertEqual(kinds.without_rooms(name="plain", many=4).pairs[0], ("plain", 0))
        self.assertEqual(kinds.without_rooms("suite", 0), kinds)
        self.assertEqual(kinds.pairs, PAIRS)

    def test_wrong_pairs(self):
        for value in NO_SEQUENCES:
            self.refuse(BadItem, (None,), Kinds, value)
        wrong = [(name, 1) for name in NO_NAMES] + [("b", many) for many in NO_NUMBERS + (-1, 401)]
        for value in wrong + [None, "ab", ("b",), ("b", 1, 1), {"b": 1}]:
            self.refuse(BadItem, (1,), Kinds, [("a", 1), value, None])

    def test_the_order_of_the_errors(self):
        many = [(f"k{k}", 1) for k in range(8)]
        self.assertEqual(len(Kinds(many)), 8)
        self.refuse(TooMany, (8,), Kinds, many + [("k0", 1)])
        self.refuse(BadItem, (9,), Kinds, many + [("k0", 1), ()])
        self.refuse(Taken, ("k0",), Kinds, many[:7] + [("k0", 2)])
        self.refuse(Taken, ("b",), Kinds, [("a", 1), ("b", 1), ("b", 1), ("c", 1), ("c", 1)])

    def test_differences(self):
        for rooms in product(range(3), repeat=3):
            kinds = Kinds(list(zip("abc", rooms)))
            for wants in product(range(4), repeat=3):
                row = tuple(sum(rooms[k:]) - sum(wants[k:]) for k in range(3))
                self.assertEqual(slacks(kinds, wants), row)
                self.assertEqual(spare_rooms(kinds, wants), tuple(max(0, rooms[k] - wants[k]) for k in range(3)))
                self.assertEqual(over_guests(kinds, wants), tuple(max(0, wants[k] - rooms[k]) for k in range(3)))
        for function in (slacks, spare_rooms, over_guests):
            self.assertEqual(len(self.ask(function, Kinds(PAIRS), [5, 1, 0])), 3)
