"""Point 52: texts of plans."""

import re
from random import Random

from keptnights.channels import Channel
from keptnights.errors import BadNote, KeptError
from keptnights.groups import Group
from keptnights.notes import format_plan, parse_plan
from keptnights.plans import Plan
from tests.support import Case, random_span
from tests.trials import later_plan, random_plan

PLAN = Plan(12, 0, [("ann", (0, 2), None), ("bob", (1, 36525 - 36500), 9999)],
            [Group("herd", [(0, 2), (1, 3)], 1, 2, 1, 7), Group("none", [], 0, 0)],
            [Channel("agent", [((0, 3), 1), ((3, 4), 400)], 14), Channel("shut", [])], [(0, 1), (0, 1)], [(5, 6)])
TEXT = """rooms 12
annex 0
single ann 0-2 -
single bob 1-25 9999
group herd 1 2 1 7 0-2 1-3
group none 0 0 0 0
channel agent 14 0-3=1 3-4=400
channel shut 1
upkeep 0-1
upkeep 0-1
lent 5-6
"""
ORDER = ("single", "group", "channel", "upkeep", "lent")
NUMBER = re.compile("(0|[1-9][0-9]{0,7})", re.ASCII)


def number_of(word):
    if not NUMBER.fullmatch(word):
        raise ValueError(word)
    return int(word)


def span_of(word):
    first, leave = word.split("-")
    return number_of(first), number_of(leave)


def count_of(word):
    span, number = word.split("=")
    return span_of(span), number_of(number)


def plan_by_words(lines):
    """The plan of whole lines, an error if they are not written so; one line alone is the rooms."""
    things = {word: [] for word in ORDER}
    first, *words = lines[0].split(" ")
    second, *more = lines[1].split(" ") if len(lines) > 1 else ("annex", "0")
    if (first, len(words), second, len(more)) != ("rooms", 1, "annex", 1):
        raise ValueError(lines)
    for line in lines[2:]:
        head, *rest = line.split(" ")
        if any(things[word] for word in ORDER[ORDER.index(head) + 1:]):
            raise ValueError(line)
        if head == "single":
            name, span, cost = rest
            things[head].append((name, span_of(span), None if cost == "-" else number_of(cost)))
        elif head == "group":
            least, most, guests, nights = [number_of(word) for word in rest[1:5]]
            things[head].append(Group(rest[0], [span_of(word) for word in rest[5:]], least, most, guests, nights))
        elif head == "channel":
            things[head].append(Channel(rest[0], [count_of(word) for word in rest[2:]], number_of(rest[1])))
        else:
            span, = rest
            things[head].append(span_of(span))
    return Plan(number_of(words[0]), number_of(more[0]), *[things[word] for word in ORDER])


def wrong_line(text):
    """The first wrong line of a text, or None."""
    *lines, rest = text.split("\n")
    for number in range(1, len(lines) + 1):
        try:
            plan_by_words(lines[:number])
        except (ValueError, IndexError, TypeError):
            return number
    return len(lines) + 1 if rest or len(lines) < 2 else None


def spoilt(random, text):
    """A text with one thing spoilt."""
    lines = text.split("\n")[:-1]
    at, other = random.randrange(len(lines)), random.randrange(len(lines))
    words = lines[at].split(" ")
    place = random.randrange(len(words))
    word = words[place]
    what = random.randrange(10)
    if what == 0:
        return "\n".join(lines)
    if what == 1:
        return text[:random.randrange(len(text))]
    if what == 2:
        lines.insert(other, lines[at])
    elif what == 3:
        lines.insert(other, lines.pop(at))
    elif what == 4:
        lines.pop(at)
    elif what == 5:
        sign = random.choice(" \t\r0-=aA,.\u0661\x0b\x1c\u2028_+")
        cut = random.randint(0, len(lines[at]))
        lines[at] = lines[at][:cut] + sign + lines[at][cut:]
    elif what == 6:
        lines[at] = " ".join(words[:place] + [random.choice(("", "-", "0", "007", "00", "123456789", "x", "5-3", "3-3", "0-1=2",
                                                             "36525-36526", "-1", "+1", "1.0", word + " ", word + word))] + words[place + 1:])
    elif what == 7:
        lines[at] = " ".join(words[:place] + words[place + 1:])
    elif what == 8:
        lines[at] = " ".join(words[:place] + [word, word] + words[place + 1:])
    else:
        lines.insert(other, "")
    return "\n".join(lines) + "\n"


class TestNotes(Case):
    def test_a_text(self):
        self.assertEqual(self.ask(format_plan, PLAN), TEXT)
        self.assertTrue(self.ask(parse_plan, TEXT) == PLAN)
        self.assertEqual(format_plan(Plan(0, 400, [])), "rooms 0\nannex 400\n")
        self.assertTrue(parse_plan("rooms 0\nannex 400\n") == Plan(0, 400, []))

    def test_the_plan_of_its_own_text(self):
        random = Random(52)
        for _ in range(300):
            plan = random_plan(random, random.choice((0, 5, 36000, 36521)))
            text = format_plan(plan)
            self.assertTrue(parse_plan(text) == plan == plan_by_words(text.split("\n")[:-1]))
            self.assertEqual(format_plan(parse_plan(text)), text)

    def test_spoilt_texts(self):
        random = Random(520)
        right = wrong = 0
        for _ in range(4000):
            text = spoilt(random, random.choice((TEXT, format_plan(random_plan(random)))))
            line = wrong_line(text)
            if line is None:
                right += 1
                self.assertEqual(format_plan(parse_plan(text)), text)
            else:
                wrong += 1
                self.refuse(BadNote, (line,), parse_plan, text)
        self.assertTrue(right > 100 and wrong > 1000, (right, wrong))

    def test_single_lines(self):
        start = "rooms 5\nannex 0\n"
        for line in ("single ann 0-1 0", "single ann 36524-36525 -", "group g 0 0 0 0", "channel c 14", "channel c 1 0-1=0",
                     "upkeep 0-90", "lent 99-100", "group g 0 1 1 7 0-1"):
            self.assertEqual(format_plan(parse_plan(start + line + "\n")), start + line + "\n")
        for line in ("", " ", "single", "single ann", "single ann 0-1", "single ann 0-1 - -", "single ann 0-1 --", "single ann 0-1 -1",
                     "single ann 0-1 10000", "single ann 0-1 05", "single Ann 0-1 5", "single ann 1-1 5", "single ann 0-1-2 5",
                     "single ann 01-2 5", "single ann 0-36526 5", "single ann 0-100000000 5", "single ann 0 1 5", "Single ann 0-1 5",
                     "single  ann 0-1 5", " single ann 0-1 5", "single ann 0-1 5 ", "group g 0 0 0", "group g 1 0 0 0", "group g 0 1 0 0",
                     "group g 0 1 0 8 0-1", "group g 0 0 0 0 1-0", "group g 0 -0 0 0", "channel c", "channel c 0", "channel c 15",
                     "channel c 1 0-1", "channel c 1 0-1=401", "channel c 1 0-1=01", "channel c 1 0-1=1=1", "channel c 1 1-2=1 0-1=1",
                     "channel c 1 0-2=1 1-3=1", "channel c 1 =1", "upkeep", "upkeep 0-91", "upkeep 0-1 0-1", "lent 1", "lend 0-1",
                     "lent 1-0", "rooms 5", "annex 5", "upkeep -1", "upkeep 0-1-", "lent 0-1=1", "note"):
            self.refuse(BadNote, (3,), parse_plan, start + line + "\n")
            self.refuse(BadNote, (3,), parse_plan, start + line + "\n" + "nonsense\n")

    def test_the_first_lines(self):
        for text, line in (("", 1), ("\n", 1), ("rooms 5", 1), ("rooms 5\n", 2), ("rooms 5\nannex 3", 2), ("annex 3\nrooms 5\n", 1),
                           ("rooms 401\nannex 1\n", 1), ("rooms 5\nannex 401\n", 2), ("rooms 05\nannex 1\n", 1), ("rooms 5 5\n", 1),
                           ("rooms\nannex 1\n", 1), ("rooms -1\n", 1), ("rooms 123456789\n", 1), ("rooms 5\nannex\n", 2),
                           ("rooms 5\nrooms 5\n", 2), ("rooms 5\nannex 1\n\n", 3), ("rooms 5\nannex 1\n\nupkeep 0-1\n", 3),
                           ("rooms 5\r\nannex 1\r\n", 1), ("rooms 5\nannex 1\nupkeep 0-1", 3), ("rooms 5\n\nannex 1\n", 2),
                           ("x", 1), ("rooms 5\nannex 1\nx", 3), ("rooms 5\nannex 1\nannex 1\n", 3), ("annex 1\n", 1)):
            self.refuse(BadNote, (line,), parse_plan, text)
            self.assertEqual(wrong_line(text), line)

    def test_names_that_stand_twice_and_too_many_lines(self):
        start = ["rooms 5", "annex 0"]
        for rows, line in ((["single a 0-1 -"] * 2, 4), (["single a 0-1 -", "single b 0-1 -", "group b 0 0 0 0"], 5),
                           (["group a 0 0 0 0", "channel a 1", "channel a 1"], 4),
                           ([f"single a{k} 0-1 -" for k in range(61)], 63), (["upkeep 0-1"] * 70, 63), (["lent 0-1"] * 61, 63),
                           ([f"group g{k} 0 0 0 0" for k in range(9)], 11), ([f"channel c{k} 1" for k in range(9)], 11),
                           (["upkeep 0-1", "upkeep 50-91", "upkeep 0-1"], 4), (["group g 0 0 0 0" + " 0-1" * 31], 3),
                           (["upkeep 0-1", "single a 0-1 -"], 4), (["lent 0-1", "upkeep 0-1", "lent 0-1"], 4)):
            self.refuse(BadNote, (line,), parse_plan, "\n".join(start + rows) + "\n")

    def test_numbers_of_many_figures(self):
        for word in ("00000005", "123456789", "1" * 5000):
            self.refuse(BadNote, (1,), parse_plan, f"rooms {word}\nannex 1\n")
            self.refuse(BadNote, (3,), parse_plan, f"rooms 1\nannex 1\nupkeep 0-{word}\n")

    def test_the_largest_plan(self):
        random = Random(521)
        singles = [(f"s{k}", random_span(random, 80, 14), random.choice((None, 9999, 0))) for k in range(60)]
        groups = [Group(f"g{k}", [random_span(random, 80, 9) for _ in range(30)], 5, 25, 9, 7) for k in range(8)]
        channels = [Channel(f"c{k}", [((k, k + 1), 400) for k in range(60)], 14 - k) for k in range(8)]
        spans = [random_span(random, 90, 10) for _ in range(60)]
        plan = later_plan(Plan(400, 400, singles, groups, channels, spans, spans), 36434)
        text = format_plan(plan)
        self.assertTrue(parse_plan(text) == plan)
        self.assertEqual(len(text.split("\n")), 2 + 60 + 8 + 8 + 60 + 60 + 1)
        with self.assertRaises(KeptError):
            parse_plan(text + "lent 36434-36435\n")
