"""Point 52: texts of folios."""

import re
from random import Random

from keptnights.bills import bill
from keptnights.errors import BadNote
from keptnights.events import is_event
from keptnights.folios import Folio
from keptnights.foliotexts import format_folio, parse_folio
from tests.guests import RIGHT, random_event, random_events, random_folio, random_rules
from tests.support import Case
from tests.test_notes import spoilt

EVENTS = [((5, "bar"), "charge", "tea", -300), ((5, "front"), "stay", (0, 36525), "day"), ((6, "a"), "state", "here"),
          ((7, "a"), "left", 0), ((7, "b"), "grant", 100), ((99999998, "a"), "paid", "ann", 9999999),
          ((99999999, "a"), "void", (5, "bar")), ((99999999, "b"), "shares", (("ann", 0), ("bob", 9999999)))]
TEXT = """5 bar charge tea -300
5 front stay 0-36525 day
6 a state here
7 a left 0
7 b grant 100
99999998 a paid ann 9999999
99999999 a void 5 bar
99999999 b shares ann=0 bob=9999999
"""
NUMBER = "(0|[1-9][0-9]{0,7})"
NAME = "([a-z][a-z0-9]{0,11})"
LINES = {"stay": f"{NUMBER}-{NUMBER} {NAME}", "state": "([a-z]+)", "left": NUMBER, "grant": NUMBER,
         "charge": f"{NAME} (-?){NUMBER}", "paid": f"{NAME} (-?){NUMBER}", "void": f"{NUMBER} {NAME}",
         "shares": f"{NAME}={NUMBER}(?: {NAME}={NUMBER})*"}


def event_by_words(line):
    """The event of a line, None for another line."""
    for word, form in LINES.items():
        found = re.fullmatch(f"{NUMBER} {NAME} {word} {form}", line, re.ASCII)
        if found:
            minute, desk, *parts = found.groups()
            stamp = (int(minute), desk)
            if word == "shares":
                pairs = [pair.split("=") for pair in line.split(" ")[3:]]
                event = (stamp, word, tuple((name, int(weight)) for name, weight in pairs))
            elif word == "stay":
                event = (stamp, word, (int(parts[0]), int(parts[1])), parts[2])
            elif word == "void":
                event = (stamp, word, (int(parts[0]), parts[1]))
            elif word in ("charge", "paid"):
                event = (stamp, word, parts[0], int(parts[1] + parts[2]))
            else:
                event = (stamp, word, parts[0] if word == "state" else int(parts[0]))
            return event if is_event(event) else None
    return None


def wrong_line(text):
    """The first wrong line of a text, or None."""
    *lines, rest = text.split("\n")
    last = None
    for number, line in enumerate(lines, 1):
        event = event_by_words(line)
        if event is None or number > 200 or last is not None and event[0] <= last:
            return number
        last = event[0]
    return len(lines) + 1 if rest else None


class TestFolioTexts(Case):
    def test_a_text(self):
        folio = Folio(EVENTS[::-1])
        self.assertEqual(self.ask(format_folio, folio), TEXT)
        self.assertTrue(self.ask(parse_folio, TEXT) == folio)
        self.assertEqual(format_folio(Folio()), "")
        self.assertTrue(parse_folio(text="") == Folio())

    def test_the_folio_of_its_own_text(self):
        random = Random(522)
        self.assertTrue(parse_folio(format_folio(Folio(RIGHT))) == Folio(RIGHT))
        for _ in range(200):
            folio = random_folio(random)
            text = format_folio(folio)
            self.assertTrue(parse_folio(text) == folio)
            self.assertEqual(text, "".join(line + "\n" for line in text.split("\n")[:-1]))
            self.assertEqual(format_folio(parse_folio(text)), text)

    def test_every_order_and_two_desks(self):
        random = Random(523)
        for _ in range(100):
            rules = random_rules(random)
            events = list({event[0]: event for event in random_events(random)}.values())
            text = format_folio(Folio(events))
            random.shuffle(events)
            cut = random.randint(0, len(events))
            front, back = Folio(events[:cut] + events[:1]), Folio(events[cut:])
            self.assertEqual(format_folio(front.joined(back)), text)
            self.assertEqual(format_folio(back.joined(front)), text)
            self.assertTrue(bill(rules, parse_folio(text)) == bill(rules, Folio(events)))

    def test_spoilt_texts(self):
        random = Random(524)
        right = wrong = 0
        for _ in range(4000):
            folio = random_folio(random)
            if len(folio) == 0:
                continue
            text = spoilt(random, random.choice((TEXT, format_folio(folio))))
            line = wrong_line(text)
            if line is None:
                right += 1
                self.assertEqual(format_folio(parse_folio(text)), text)
            else:
                wrong += 1
                self.refuse(BadNote, (line,), parse_folio, text)
        self.assertTrue(right > 200 and wrong > 1000, (right, wrong))

    def test_single_lines(self):
        for line in ("0 a left 99999999", "99999999 a left 0", "1 a charge b -9999999", "1 a paid b 1", "1 a void 0 b",
                     "1 a shares b=1", "1 a stay 0-1 b", "1 a state absent"):
            self.assertEqual(format_folio(parse_folio(line + "\n")), line + "\n")
        for line in ("", " ", "1", "1 a", "1 a left", "1 a left ", "1 a left 5 5", "01 a left 5", "1 A left 5", "-1 a left 5", "1  a left 5",
                     "1 a left 05", "1 a left 123456789", "100000000 a left 5", "1 a left -5", "1 a grant 101", "1 a grant -0",
                     "1 a charge b 0", "1 a charge b -0", "1 a charge b +5", "1 a charge b --5", "1 a charge b -", "1 a charge b 10000000",
                     "1 a charge b -05", "1 a charge 5", "1 a charge B 5", "1 a charge b 5 5", "1 a void 5", "1 a void 5 B", "1 a void 05 b",
                     "1 a void 5 b b", "1 a shares", "1 a shares b", "1 a shares b=", "1 a shares b=0", "1 a shares b=01", "1 a shares b=1 b=1",
                     "1 a shares b=1  c=1", "1 a shares b=10000000", "1 a shares =1", "1 a shares b=1=1", "1 a shares b=-1",
                     "1 a shares " + " ".join(f"n{k}=1" for k in range(9)), "1 a stay 0-1", "1 a stay 1-1 b", "1 a stay 0-36526 b",
                     "1 a stay 00-1 b", "1 a stay 0-1 b b", "1 a stay 0 1 b", "1 a state", "1 a state gone", "1 a state here here",
                     "1 a here", "1 a Left 5", "left 5", "1 a left 5\r", "1\ta left 5", "1 a  5"):
            for start, number in (("", 1), ("0 a left 5\n", 2)):
                self.refuse(BadNote, (number,), parse_folio, start + line + "\n")
                self.refuse(BadNote, (number,), parse_folio, start + line + "\nnonsense")

    def test_stamps_that_do_not_ascend(self):
        for text, line in (("5 a left 1\n5 a left 1\n", 2), ("5 b left 1\n5 a left 1\n6 a left 1\n", 2), ("5 a left 1\n4 b left 1\n", 2),
                           ("5 a left 1\n5 ab left 1\n5 aa left 2\n", 3), ("9 a left 1\n10 a left 1\n", None)):
            if line is None:
                self.assertEqual(len(parse_folio(text)), 2)
            else:
                self.refuse(BadNote, (line,), parse_folio, text)

    def test_texts_that_are_cut_off(self):
        for cut in range(len(TEXT)):
            text = TEXT[:cut]
            if text == "" or text.endswith("\n"):
                self.assertEqual(format_folio(parse_folio(text)), text)
            else:
                self.refuse(BadNote, (text.count("\n") + 1,), parse_folio, text)

    def test_the_200th_and_the_201st_line(self):
        random = Random(525)
        events = [random_event(random, k * 3, "bar") for k in range(201)]
        text = format_folio(Folio(events[:200]))
        self.assertTrue(parse_folio(text) == Folio(events[:200]))
        self.refuse(BadNote, (201,), parse_folio, text + "700 bar left 5\n")
        self.refuse(BadNote, (201,), parse_folio, text + "nonsense\n" * 9)
