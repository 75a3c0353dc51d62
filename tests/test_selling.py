"""Point 15: how many guests more, and which of them."""

from itertools import product
from random import Random

from keptnights.errors import Unknown
from keptnights.kinds import Kinds, slacks
from keptnights.seatings import seat_bar
from keptnights.selling import can_take, dearest_taken, more_of, open_counts, pay_of, room_worth, tight_kind
from tests.support import Case

NAMES = ("z", "m", "a")


def added(wants, more):
    return [one + other for one, other in zip(wants, more)]


def only(place, many):
    return [many if k == place else 0 for k in range(3)]


def most_paid(rooms, wants, offers, pays):
    """The greatest pay of all choices of offered guests who can be seated."""
    kinds = Kinds(list(zip(NAMES, rooms)))
    if seat_bar(kinds, wants) is not None:
        return 0
    choices = product(*[range(many + 1) for many in offers])
    return max(pay_of(some, pays) for some in choices if seat_bar(kinds, added(wants, some)) is None)


class TestSelling(Case):
    def small_cases(self):
        for rooms in product(range(3), repeat=3):
            for wants in product(range(3), repeat=3):
                yield Kinds(list(zip(NAMES, rooms))), rooms, wants

    def test_more_of(self):
        for kinds, _, wants in self.small_cases():
            counts = []
            for place, name in enumerate(NAMES):
                most = max([many for many in range(8) if seat_bar(kinds, added(wants, only(place, many))) is None],
                           default=0)
                self.assertEqual(more_of(kinds, wants, name), most)
                if seat_bar(kinds, wants) is None:
                    self.assertEqual(most, max(0, min(slacks(kinds, wants)[:place + 1])))
                counts.append((name, most))
            self.assertEqual(open_counts(kinds, wants), tuple(counts))

    def test_tight_kinds(self):
        for kinds, _, wants in self.small_cases():
            for place, name in enumerate(NAMES):
                tight = [NAMES[k] for k in range(place + 1) if slacks(kinds, wants)[k] <= 0]
                self.assertEqual(tight_kind(kinds, wants, name), tight[-1] if tight else None)

    def test_can_take(self):
        kinds = Kinds([("a", 2), ("b", 1)])
        for wants in product(range(4), repeat=2):
            for more in product(range(3), repeat=2):
                self.assertIs(self.ask(can_take, kinds, wants, more), seat_bar(kinds, added(wants, more)) is None)

    def test_all_forms(self):
        kinds = Kinds([("a", 2), ("b", 1)])
        self.assertEqual(self.ask(more_of, kinds, [1, 0], "a"), 2)
        self.assertEqual(self.ask(more_of, kinds, [1, 0], "b"), 1)
        self.assertEqual(self.ask(open_counts, kinds, [1, 0]), (("a", 2), ("b", 1)))
        self.assertEqual(self.ask(tight_kind, kinds, [2, 1], "b"), "b")
        self.assertEqual(self.ask(pay_of, [2, 3], [5, 7]), 31)
        self.assertEqual(self.ask(open_counts, Kinds([]), []), ())

    def test_guests_who_cannot_be_seated(self):
        kinds = Kinds([("a", 9), ("b", 0)])
        self.assertEqual(open_counts(kinds, [0, 1]), (("a", 0), ("b", 0)))
        self.assertEqual(dearest_taken(kinds, [0, 1], [5, 5], [1, 1]), (0, 0))
        self.assertEqual(room_worth(kinds, [0, 1], [5, 0], [7, 7], "b"), 35)

    def test_no_other_choice_pays_more(self):
        random = Random(15)
        for _ in range(300):
            rooms, wants, offers, pays = [[random.randrange(4) for _ in range(3)] for _ in range(4)]
            kinds = Kinds(list(zip(NAMES, rooms)))
            taken = self.ask(dearest_taken, kinds, wants, offers, pays)
            self.assertTrue(all(0 <= many <= most for many, most in zip(taken, offers)))
            self.assertEqual(pay_of(taken, pays), most_paid(rooms, wants, offers, pays))
            if seat_bar(kinds, wants) is None:
                self.assertTrue(can_take(kinds, wants, taken))
            for place, name in enumerate(NAMES):
                grown = added(rooms, only(place, 1))
                worth = most_paid(grown, wants, offers, pays) - most_paid(rooms, wants, offers, pays)
                self.assertEqual(self.ask(room_worth, kinds, wants, offers, pays, name), worth)

    def test_of_equal_pays_the_later_kind(self):
        kinds = Kinds([("a", 2), ("b", 1)])
        self.assertEqual(self.ask(dearest_taken, kinds, [0, 0], [3, 3], [5, 5]), (2, 1))
        self.assertEqual(self.ask(dearest_taken, kinds, [1, 1], [1, 1], [5, 5]), (1, 0))
        self.assertEqual(self.ask(dearest_taken, Kinds([("a", 0), ("b", 2)]), [0, 0], [3, 1], [5, 5]), (1, 1))
        self.assertEqual(self.ask(dearest_taken, Kinds([("a", 0), ("b", 2)]), [0, 0], [3, 1], [6, 5]), (2, 0))
        self.assertEqual(self.ask(dearest_taken, Kinds([("a", 0), ("b", 2)]), [0, 0], [3, 1], [0, 0]), (1, 1))

    def test_unknown_names(self):
        kinds = Kinds([("a", 400), ("b", 400)])
        for name in ("c", None, True, 0, ["a"], ("a", 400)):
            self.refuse(Unknown, (name,), more_of, kinds, [0, 0], name)
            self.refuse(Unknown, (name,), tight_kind, kinds, [0, 0], name)
            self.refuse(Unknown, (name,), room_worth, kinds, [0, 0], [1, 1], [1, 1], name)

    def test_one_room_more_than_kinds_can_have(self):
        kinds = Kinds([("a", 400), ("b", 400)])
        self.assertEqual(room_worth(kinds, [0, 0], [9999, 9999], [7, 3], "b"), 7)
        self.assertEqual(room_worth(kinds, [400, 400], [0, 1], [7, 3], "b"), 3)
