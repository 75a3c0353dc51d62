"""Point 51: histories."""

from random import Random

from keptnights.channels import Channel
from keptnights.errors import BadEvent, BadNumber, KeptError, NothingToUndo, Refused, Taken, TooMany, Unknown
from keptnights.groups import Group
from keptnights.histories import History, replayed
from keptnights.houses import House
from keptnights.plans import Plan
from tests.deeds import random_deed, wrong_deeds
from tests.support import NO_NUMBERS, Case, as_lists
from tests.test_houses import AGENT, HERD, call_of, state_of

UNDO, REDO = ("undo",), ("redo",)
ANN, BOB = ("sell", "ann", (0, 2), 9), ("sell", "bob", (1, 3), 4)


def all_of(history):
    return (state_of(history.house), history.deeds, history.journal, len(history))


def house_behind(rooms, annex, deeds):
    """A house in which deeds were done one after the other."""
    house = House(rooms, annex)
    for deed in deeds:
        method, *args = call_of(house, deed)
        method(*args)
    return house


class TestHistories(Case):
    def test_against_the_deeds_that_stand(self):
        random = Random(51)
        counts = {"done": 0, "refused": 0, "undone": 0, "redone": 0, "nothing": 0}
        for _ in range(120):
            rooms, annex = random.randrange(1, 5), random.randrange(3)
            history = History(rooms, annex)
            house, stand, gone, journal = history.house, [], [], []
            for _ in range(20):
                before = all_of(history)
                step = random.random()
                if step < 0.5:
                    deed = random_deed(random)
                    try:
                        moved = history.do(deed)
                    except KeptError:
                        counts["refused"] += 1
                        with self.assertRaises(KeptError):
                            house_behind(rooms, annex, stand + [deed])
                        self.assertEqual(all_of(history), before)
                    else:
                        counts["done"] += 1
                        stand, gone = stand + [deed], []
                        journal.append(deed)
                        self.assertEqual(moved, house_behind(rooms, annex, stand).moved())
                elif (gone if step > 0.75 else stand):
                    counts["redone" if step > 0.75 else "undone"] += 1
                    taken, given = (gone, stand) if step > 0.75 else (stand, gone)
                    deed = taken.pop()
                    given.append(deed)
                    journal.append(REDO if step > 0.75 else UNDO)
                    self.assertEqual(history.redo() if step > 0.75 else history.undo(), deed)
                else:
                    counts["nothing"] += 1
                    self.refuse(NothingToUndo, (), history.redo if step > 0.75 else history.undo)
                    self.assertEqual(all_of(history), before)
                self.assertEqual((history.deeds, history.journal, len(history)), (tuple(stand), tuple(journal), len(stand)))
                self.assertTrue(history.house is house and house.plan == house_behind(rooms, annex, stand).plan)
            again = replayed(rooms, annex, journal)
            self.assertEqual(all_of(again), all_of(history))
            if gone:
                self.assertEqual(again.redo(), history.redo())
        self.assertTrue(min(counts.values()) > 50, counts)

    def test_a_few_deeds(self):
        history = History(annex=1, rooms=1)
        self.assertEqual((history.do(ANN), history.do(deed=as_lists(BOB)), history.do(("lend", [5, 6]))), ((), ("bob",), ("bob",)))
        self.assertEqual(history.deeds, (ANN, BOB, ("lend", (5, 6))))
        self.assertEqual((history.undo(), history.undo(), history.redo()), (("lend", (5, 6)), BOB, BOB))
        # A deed behind an undo lets what was undone be forgotten.
        self.assertEqual(history.do(["upkeep", [3, 4]]), ("bob",))
        self.refuse(NothingToUndo, (), history.redo)
        self.assertEqual(history.deeds, (ANN, BOB, ("upkeep", (3, 4))))
        self.assertEqual(history.journal, (ANN, BOB, ("lend", (5, 6)), UNDO, UNDO, REDO, ("upkeep", (3, 4))))
        self.assertEqual((len(history), history.house.names), (3, ("ann", "bob")))

    def test_nothing_to_take_back(self):
        history = History(1, 0)
        self.refuse(NothingToUndo, (), history.undo)
        self.refuse(NothingToUndo, (), history.redo)
        self.assertEqual((len(history), history.journal, history.deeds), (0, (), ()))
        history.do(ANN)
        self.refuse(NothingToUndo, (), history.redo)
        history.undo()
        self.refuse(NothingToUndo, (), history.undo)
        self.assertTrue(history.house.plan == Plan(1, 0, []))

    def test_a_refused_deed_forgets_nothing(self):
        history = History(1, 0)
        history.do(ANN)
        history.undo()
        for deed, error in ((("sell", "bob", (0, 99), None), TooMany), (("cancel", "bob"), Unknown), (("lend", (0, 1)), Refused)):
            with self.assertRaises(error):
                history.do(deed)
        self.assertEqual((history.redo(), history.journal), (ANN, (ANN, UNDO, REDO)))

    def test_what_is_taken_back_is_as_it_was(self):
        history = History(5, 0)
        history.do(("open", AGENT))
        history.do(("bring", HERD))
        history.do(("sell", "ann", (0, 1), None))
        before = history.house.plan.fields()
        for deed in (("cancel", "agent"), ("open", AGENT), ("cancel", "herd")):
            history.do(deed)
            history.undo()
            self.assertEqual(history.house.plan.fields(), before)

    def test_errors_of_the_house(self):
        history = History(1, 0)
        history.do(ANN)
        before = all_of(history)
        self.refuse(Taken, ("ann",), history.do, ANN)
        self.refuse(Refused, ("cut", 1), history.do, BOB)
        self.refuse(Unknown, ("bob",), history.do, ("cancel", "bob"))
        for value in wrong_deeds():
            self.refuse(BadEvent, (value,), history.do, value)
        self.assertEqual(all_of(history), before)
        for value in NO_NUMBERS + (-1, 401):
            self.refuse(BadNumber, (value,), History, value, None)
            self.refuse(BadNumber, (value,), History, 400, value)

    def test_copies(self):
        history = History(5, 0)
        group, channel, deed = Group("g", [(0, 1)], 0, 1), Channel("c", []), ["upkeep", [0, 1]]
        for one in (("bring", group), ("open", channel), deed):
            history.do(one)
        group.name = channel.name = deed[0] = "other"
        deed[1][1] = 7
        self.assertEqual([one[1].name for one in history.deeds[:2]], ["g", "c"])
        self.assertEqual((history.deeds[2], history.house.names), (("upkeep", (0, 1)), ("g", "c")))

    def test_replaying(self):
        journal = [ANN, BOB, UNDO, ("bring", HERD), UNDO, REDO, ["undo"]]
        history = replayed(2, 1, as_lists([ANN, BOB, UNDO]))
        self.assertEqual((history.deeds, history.journal), ((ANN,), (ANN, BOB, UNDO)))
        history = replayed(journal=journal, annex=1, rooms=2)
        self.assertEqual((history.deeds, len(history.journal), history.redo()), ((ANN,), 7, ("bring", HERD)))
        self.assertEqual(all_of(replayed(2, 1, [])), all_of(History(2, 1)))
        self.refuse(NothingToUndo, (), replayed, 2, 1, [ANN, UNDO, UNDO])
        self.refuse(Refused, ("cut", 1), replayed, 1, 0, [ANN, BOB])
        for value in [value for value in wrong_deeds() if value not in (UNDO, REDO)]:
            self.refuse(BadEvent, (value,), replayed, 2, 1, [ANN, value])
        for value in NO_NUMBERS:
            self.refuse(BadNumber, (value,), replayed, value, 1, None)

    def test_a_long_history(self):
        history = History(60, 60)
        for number in range(60):
            history.do(("sell", f"n{number}", (number % 30, number % 30 + 9), 5))
        for _ in range(60):
            history.undo()
        for _ in range(60):
            history.redo()
        self.assertEqual((len(history), len(history.journal), len(history.house.names)), (60, 180, 60))
