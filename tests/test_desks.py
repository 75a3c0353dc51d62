"""Point 53: desks."""

from random import Random

from keptnights.channels import Channel
from keptnights.desks import Desk
from keptnights.errors import (BadEvent, BadItem, BadNumber, KeptError, NothingToUndo, Refused, Taken, TooMany, Unknown)
from keptnights.groups import Group
from keptnights.histories import History
from keptnights.notes import format_plan
from keptnights.plans import Plan
from tests.deeds import random_deed
from tests.support import NO_NUMBERS, NO_SEQUENCES, Case
from tests.test_histories import all_of


def span_word(span):
    return f"{span[0]}-{span[1]}"


def command_of(deed):
    """The command that does a deed."""
    word, what = deed[:2]
    if word == "sell":
        return f"sell {what} {span_word(deed[2])} {'-' if deed[3] is None else deed[3]}"
    if word == "bring":
        numbers = f"{what.least} {what.most} {what.late_guests} {what.late_nights}"
        return " ".join(["bring", what.name, numbers] + [span_word(span) for span in what.spans])
    if word == "open":
        return " ".join(["open", what.name, str(what.least_stay)] + [f"{span_word(span)}={many}" for span, many in what.counts])
    return f"{word} {what if word == 'cancel' else span_word(what)}"


def answer_of(deed):
    """The answer to undo and redo."""
    return command_of(deed).split(" ")[0] + " " + command_of(deed).split(" ")[1]


def state_of(desk):
    return all_of(desk.history) + (desk.log,)


class TestDesks(Case):
    def test_random_commands_against_a_history(self):
        random = Random(53)
        counts = {}
        for _ in range(120):
            rooms, annex = random.randrange(1, 5), random.randrange(3)
            desk, history, log = Desk(rooms, annex), History(rooms, annex), []
            for _ in range(20):
                deed = random_deed(random)
                command = random.choice([command_of(deed)] * 5 + ["undo", "redo", "undo", "moved", "note", "could 1-3 5", "could 0-2 -"])
                try:
                    if command == "undo":
                        answer = answer_of(history.undo())
                    elif command == "redo":
                        answer = answer_of(history.redo())
                    elif command == "note":
                        answer = format_plan(history.house.plan)
                    elif command.startswith("could"):
                        could = history.house.could_sell((1, 3), 5) if "5" in command else history.house.could_sell((0, 2))
                        answer = "yes" if could else "no"
                    else:
                        answer = " ".join(history.house.moved() if command == "moved" else history.do(deed)) or "-"
                except KeptError as error:
                    before = state_of(desk)
                    self.refuse(type(error), tuple(vars(error).values()), desk.execute, command)
                    self.assertEqual(state_of(desk), before)
                    answer = "error"
                else:
                    self.assertEqual(desk.execute(command=command), answer)
                    log.append(command)
                word = command.split(" ")[0]
                counts[word, answer == "error"] = counts.get((word, answer == "error"), 0) + 1
                self.assertEqual(state_of(desk), all_of(history) + (tuple(log),))
        for word in ("sell", "cancel", "bring", "open", "upkeep", "lend", "undo", "redo"):
            self.assertTrue(counts[word, True] > 3 and counts[word, False] > 10, counts)

    def test_all_words(self):
        desk = Desk(2, 1)
        self.assertEqual((desk.present_house.plan.rooms, desk.history.house.plan.annex, desk.log), (2, 1, ()))
        for command, answer in (("sell ann 0-3 5", "-"), ("bring herd 1 2 0 0 0-2 1-3", "ann"), ("moved", "ann"), ("could 3-4 -", "yes"),
                                ("could 1-2 7", "no"), ("open agent 2 3-5=1", "ann"), ("upkeep 3-4", "ann"), ("lend 4-5", "ann"),
                                ("undo", "lend 4-5"), ("undo", "upkeep 3-4"), ("redo", "upkeep 3-4"), ("cancel herd", "-"), ("undo", "cancel herd"),
                                ("undo", "upkeep 3-4"), ("undo", "open agent"), ("redo", "open agent"), ("undo", "open agent"),
                                ("undo", "bring herd"), ("undo", "sell ann"), ("moved", "-"), ("redo", "sell ann"),
                                ("note", "rooms 2\nannex 1\nsingle ann 0-3 5\n")):
            self.assertEqual(desk.execute(command), answer, command)
        self.assertEqual((desk.log[0], desk.log[-1], len(desk.log)), ("sell ann 0-3 5", "note", 22))
        self.assertTrue(desk.present_house is desk.history.house)

    def test_what_commands_make(self):
        desk = Desk(400, 400)
        for command in ("sell a 0-1 -", "sell b 5-6 9999", "bring g 0 1 1 7 0-2 5-6", "bring none 0 0 0 0",
                        "open c 14 0-3=400 5-6=0", "open shut 1", "upkeep 7-8", "lend 7-8"):
            desk.execute(command)
        plan = Plan(400, 400, [("a", (0, 1), None), ("b", (5, 6), 9999)], [Group("g", [(0, 2), (5, 6)], 0, 1, 1, 7), Group("none", [], 0, 0)],
                    [Channel("c", [((0, 3), 400), ((5, 6), 0)], 14), Channel("shut", [])], [(7, 8)], [(7, 8)])
        self.assertTrue(desk.present_house.plan == plan)
        self.assertEqual(desk.execute("note"), format_plan(plan))

    def test_names_that_move(self):
        desk = Desk(1, 2)
        for command, answer in (("sell ann 0-2 5", "-"), ("sell bob 0-2 5", None), ("sell cy 0-2 9", "ann bob"), ("moved", "ann bob")):
            self.assertIn(desk.execute(command), ("ann", "bob") if answer is None else (answer,))

    def test_commands_that_are_none(self):
        desk = Desk(5, 5)
        desk.execute("sell ann 0-2 5")
        before = state_of(desk)
        wrong = list(NO_SEQUENCES) + [["undo"], ("moved",), "", " ", "Undo", "undo ", " undo", "undo 1", "redo redo", "undo\n", "note -",
                                      "moved ann", "buy ann", "sell", "cancel", "bring", "open", "upkeep", "lend", "could"]
        for command in ("sell bob 0-1 5", "cancel ann", "upkeep 0-1", "lend 0-1", "could 0-1 5"):
            words = command.split(" ")
            wrong += [" ".join(words[:-1]), command + " 5", command + " -", command.replace(" ", "  ", 1), command + " ", " " + command]
            wrong += [command.capitalize(), command + "\n"]
            for place, word in enumerate(words):
                if word == "0-1":
                    wrong += [" ".join(words[:place] + [other] + words[place + 1:])
                              for other in ("0", "0-", "-1", "1-1", "1-0", "00-1", "0-01", "0-1-2", "0-36526", "0-123456789", "a-b", "0=1", "-")]
                if word in ("bob", "ann"):
                    wrong += [" ".join(words[:place] + [other] + words[place + 1:]) for other in ("Bob", "1bob", "a" * 13, "", "b-b", "-")]
                if word == "5":
                    wrong += [" ".join(words[:place] + [other] + words[place + 1:])
                              for other in ("05", "--", "-5", "+5", "123456789", "10000", "5.0", "a", "")]
        wrong += ["bring g 0 0 0", "bring g 0 0 0 0 ", "bring g 00 0 0 0", "bring G 0 0 0 0", "bring G 5 0 0 0", "bring g - 0 0 0", "bring g 0 1 0 0 0",
                  "bring g 0 1 0 0 0-1=1", "bring g 0 1 0 0 0-123456789", "open c", "open C 99", "open c 01", "open c 1 0-1", "open c 1 0-1=",
                  "open c 1 0-1=01", "open c 1 0-1=1=1", "open c 1 =1", "open c 1 0=1", "open c -", "open c 1  0-1=1", "bring  g 0 0 0 0"]
        for command in wrong:
            self.refuse(BadEvent, (command,), desk.execute, command)
            self.refuse(BadEvent, (command,), desk.execute_all, ["sell new 0-1 5", "undo", command, None])
        self.assertEqual(state_of(desk), before)

    def test_errors_of_groups_and_channels(self):
        desk = Desk(5, 5)
        desk.execute("sell ann 0-2 5")
        before = state_of(desk)
        for command, error, field in (("bring g 0 2 0 0 0-1", BadNumber, 2), ("bring g 2 1 0 0 0-1", BadNumber, 2), ("bring g 0 1 2 0 0-1", BadNumber, 2),
                                      ("bring g 0 1 0 8 0-1", BadNumber, 8), ("bring g 9 9 9 9 0-1 1-1", BadItem, 1),
                                      ("bring ann 9 9 9 9 0-36526", BadItem, 0), ("bring g 0 0 0 0" + " 0-1" * 31, TooMany, 30),
                                      ("open c 15", BadNumber, 15), ("open c 0 0-1=1", BadNumber, 0), ("open c 0 0-1=401", BadItem, 0),
                                      ("open c 1 0-2=1 1-3=1", BadItem, 1), ("open c 1 5-6=1 1-0=1", BadItem, 1),
                                      ("open c 1" + "".join(f" {k}-{k + 1}=1" for k in range(61)), TooMany, 60),
                                      ("bring ann 0 0 0 0", Taken, "ann"), ("open ann 1", Taken, "ann")):
            self.refuse(error, (field,), desk.execute, command)
            self.assertEqual(state_of(desk), before)

    def test_errors_of_the_house_and_the_history(self):
        desk = Desk(1, 0)
        desk.execute("sell ann 0-2 5")
        before = state_of(desk)
        for command, error, fields in (("sell ann 0-1 5", Taken, ("ann",)), ("sell bob 1-2 5", Refused, ("cut", 1)), ("cancel bob", Unknown, ("bob",)),
                                       ("sell bob 90-91 5", TooMany, (90,)), ("could 90-91 5", TooMany, (90,)), ("redo", NothingToUndo, ()),
                                       ("lend 0-1", Refused, ("cut", 0)), ("upkeep 0-1", Refused, ("cut", 0)),
                                       ("open c 1 0-1=1", Refused, ("cut", 0)), ("bring g 0 1 0 0 0-1", Refused, ("cut", 0))):
            self.refuse(error, fields, desk.execute, command)
            self.refuse(error, fields, desk.execute_all, ["sell zoe 5-6 -", "moved", command, "nonsense"] if error is not NothingToUndo else [command])
            self.assertEqual(state_of(desk), before)
        desk.execute("undo")
        self.refuse(NothingToUndo, (), desk.execute, "undo")
        for value in NO_NUMBERS + (-1, 401):
            self.refuse(BadNumber, (value,), Desk, value, None)
            self.refuse(BadNumber, (value,), Desk, 400, value)

    def test_all_or_none(self):
        desk = Desk(2, 1)
        self.assertEqual(self.ask(Desk(2, 1).execute_all, []), ())
        self.assertEqual(desk.execute_all(commands=["sell ann 0-3 5", "sell bob 0-3 6", "undo", "moved"]), ("-", "-", "sell bob", "-"))
        self.assertEqual(desk.log, ("sell ann 0-3 5", "sell bob 0-3 6", "undo", "moved"))
        before, house = state_of(desk), desk.present_house
        # What was undone can still be redone behind commands of which none was done.
        self.refuse(Unknown, ("cy",), desk.execute_all, ("redo", "undo", "undo", "sell cy 5-6 -", "cancel cy", "cancel cy"))
        self.assertEqual(state_of(desk), before)
        self.assertTrue(desk.present_house is house)
        self.assertEqual(desk.execute_all(("redo", "moved")), ("sell bob", "-"))
        self.assertEqual((len(desk.log), house.names), (6, ("ann", "bob")))

    def test_random_commands_all_or_none(self):
        random = Random(530)
        words = {True: 0, False: 0}
        for _ in range(200):
            one, two = Desk(2, 1), Desk(2, 1)
            for desk in (one, two):
                desk.execute_all(["sell ann 0-2 5", "upkeep 1-2", "undo"])
            commands = [random.choice((command_of(random_deed(random)), "undo", "redo", "moved")) for _ in range(random.randrange(6))]
            before = state_of(one)
            try:
                answers = tuple(two.execute(command) for command in commands)
            except KeptError as error:
                words[False] += 1
                self.refuse(type(error), tuple(vars(error).values()), one.execute_all, commands)
                self.assertEqual(state_of(one), before)
            else:
                words[True] += 1
                self.assertEqual(one.execute_all(commands), answers)
                self.assertEqual(state_of(one), state_of(two))
        self.assertTrue(min(words.values()) > 30, words)
