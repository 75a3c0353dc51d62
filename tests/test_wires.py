"""Point 28: a house and its channels, and what is on the way between them."""

from random import Random

from keptnights.errors import BadItem, BadNumber, Refused, Taken, TooMany, Unknown
from keptnights.wires import Wire
from tests.support import NO_NAMES, NO_NUMBERS, NO_SEQUENCES, Case, random_span

ROOMS = (3, 2, 4)
TABLES = (("web", (2, 0, 1)), ("fax", (1, 1, 400)))
NO_PAIRS = (None, True, 3, (), ("a",), ("a", [0, 0, 0], 1), {"a": 1, "b": 2}, {1, 2})


def used_wire():
    """A wire with something of each kind on its way."""
    wire = Wire(ROOMS, TABLES)
    wire.tell("web", (3, 3, 3))
    wire.tell("web", (1, 1, 0))
    wire.arrive("web")
    wire.sell("web", (0, 2))
    wire.hear("web")
    wire.sell("fax", (2, 3))
    wire.sell_own((1, 3), 2)
    return wire


class Model:
    """A wire once more, by the words of the point: all events of each channel, in their sequence."""

    def __init__(self, rooms, tables):
        self.rooms, self.own = rooms, [0] * len(rooms)
        self.told = {name: [table] for name, table in tables}
        self.letters = {name: [] for name, _ in tables}
        self.heard = {name: 0 for name, _ in tables}

    def has(self, name, letters=None):
        return max([0] + [what for word, what in (self.letters[name] if letters is None else letters) if word == "ack"])

    def sales(self, name, letters=None):
        spans = [what for word, what in (self.letters[name] if letters is None else letters) if word == "sale"]
        return tuple(sum(first <= night < leave for first, leave in spans) for night in range(len(self.rooms)))

    def state(self):
        rows = []
        for name, told in self.told.items():
            early, late = self.letters[name][:self.heard[name]], self.letters[name][self.heard[name]:]
            rows.append((name, (tuple(told), self.has(name), self.has(name, early), self.sales(name),
                                self.sales(name, early), tuple(late))))
        return (self.rooms, tuple(self.own), tuple(rows))

    def do(self, word, name, what):
        """The answer, or the fields of the error Refused."""
        if word == "own":
            for night in range(*what):
                self.own[night] += 1
        elif word == "tell":
            self.told[name].append(what)
            return len(self.told[name]) - 1
        elif word == "arrive":
            if self.has(name) == len(self.told[name]) - 1:
                return ("nothing", None)
            self.letters[name].append(("ack", self.has(name) + 1))
            return self.has(name)
        elif word == "sell":
            limits, sales = self.told[name][self.has(name)], self.sales(name)
            over = [night for night in range(*what) if sales[night] >= limits[night]]
            if over:
                return ("limit", over[0])
            self.letters[name].append(("sale", what))
        else:
            if self.heard[name] == len(self.letters[name]):
                return ("nothing", None)
            self.heard[name] += 1
            return self.letters[name][self.heard[name] - 1]
        return None


def do(wire, word, name, what):
    """The answer of a wire, or the fields of the error Refused."""
    try:
        if word == "own":
            return wire.sell_own(what)
        return {"tell": wire.tell, "sell": wire.sell}[word](name, what) if word in ("tell", "sell") else (
            {"arrive": wire.arrive, "hear": wire.hear}[word](name))
    except Refused as refused:
        return (refused.reason, refused.night)


def random_deed(random, names, nights, most=2):
    word = random.choice(("tell", "arrive", "arrive", "sell", "sell", "sell", "hear", "hear", "own"))
    what = random_span(random, nights) if word in ("sell", "own") else tuple(random.randint(0, most) for _ in range(nights))
    return word, random.choice(names), what


def random_wire(random, most_nights, most_rooms, most_deeds, most_tables=99):
    """A wire with one or two channels, of which some deeds were done; each has so many tables at most."""
    nights, names = random.randint(1, most_nights), ("web", "fax")[:random.randint(1, 2)]
    tables = [(name, tuple(random.randint(0, 1) for _ in range(nights))) for name in names]
    wire = Wire([random.randint(0, most_rooms) for _ in range(nights)], tables)
    for _ in range(random.randint(0, most_deeds)):
        word, name, what = random_deed(random, names, nights, random.randint(0, 3))
        if word != "tell" or len(wire.state()[2][names.index(name)][1][0]) < most_tables:
            do(wire, word, name, what)
    return wire


class TestWires(Case):
    def test_against_the_words_of_the_point(self):
        random = Random(28)
        refused = {}
        for _ in range(150):
            nights, names = random.randint(1, 3), ("web", "fax", "tel")[:random.randint(1, 3)]
            tables = [(name, tuple(random.randint(0, 2) for _ in range(nights))) for name in names]
            wire, model = Wire((2,) * nights, tables), Model((2,) * nights, tables)
            for _ in range(30):
                deed = random_deed(random, names, nights)
                before = wire.state()
                answer = do(wire, *deed)
                self.assertEqual(answer, model.do(*deed))
                self.assertEqual(wire.state(), model.state())
                if isinstance(answer, tuple) and answer[0] in ("nothing", "limit"):
                    refused[(deed[0], answer[0])] = True
                    self.assertEqual(wire.state(), before)
                for name, (told, has, _, _, _, letters) in wire.state()[2]:
                    self.assertEqual(wire.on_the_way(name), (len(told) - 1 - has, len(letters)))
        self.assertEqual(sorted(refused), [("arrive", "nothing"), ("hear", "nothing"), ("sell", "limit")])

    def test_a_new_wire(self):
        wire = self.ask(Wire, ROOMS, TABLES)
        rows = tuple((name, ((table,), 0, 0, (0, 0, 0), (0, 0, 0), ())) for name, table in TABLES)
        self.assertEqual(wire.state(), (ROOMS, (0, 0, 0), rows))
        self.assertEqual((wire.rooms, wire.names), (ROOMS, ("web", "fax")))
        self.assertEqual(Wire([], []).state(), ((), (), ()))
        self.assertEqual(Wire([], [["a", []]]).state(), ((), (), (("a", (((),), 0, 0, (), (), ())),)))

    def test_the_steps_of_a_wire(self):
        wire = used_wire()
        web = (((2, 0, 1), (3, 3, 3), (1, 1, 0)), 1, 1, (1, 1, 0), (0, 0, 0), (("sale", (0, 2)),))
        fax = (((1, 1, 400),), 0, 0, (0, 0, 1), (0, 0, 0), (("sale", (2, 3)),))
        self.assertEqual(wire.state(), (ROOMS, (0, 2, 2), (("web", web), ("fax", fax))))
        self.assertEqual((wire.on_the_way("web"), wire.on_the_way("fax")), ((1, 1), (0, 1)))
        self.assertEqual((wire.arrive("web"), wire.hear("web"), wire.hear("web")), (2, ("sale", (0, 2)), ("ack", 2)))
        self.refuse(Refused, ("limit", 0), wire.sell, "web", (0, 3))
        self.refuse(Refused, ("limit", 2), wire.sell, "web", (2, 3))
        self.refuse(Refused, ("nothing", None), wire.arrive, "web")
        self.refuse(Refused, ("nothing", None), wire.hear, "web")

    def test_a_lower_limit_takes_no_sale_back(self):
        wire = Wire([5], [("a", [2])])
        wire.sell("a", (0, 1))
        wire.sell("a", (0, 1))
        wire.tell("a", [1])
        wire.arrive("a")
        self.refuse(Refused, ("limit", 0), wire.sell, "a", (0, 1))
        wire.tell("a", [3])
        wire.arrive("a")
        wire.sell("a", (0, 1))
        self.assertEqual(wire.state()[2][0][1][3], (3,))

    def test_lists_and_names_of_arguments(self):
        wires = [Wire(ROOMS, TABLES) for _ in range(2)]
        wires[0].tell("web", (9, 9, 9)), wires[1].tell(table=[9, 9, 9], name="web")
        wires[0].arrive("web"), wires[1].arrive(name="web")
        wires[0].sell("web", (0, 2)), wires[1].sell(span=[0, 2], name="web")
        wires[0].sell_own((0, 1), 400), wires[1].sell_own(many=400, span=[0, 1])
        wires[0].sell_own((0, 1)), wires[1].sell_own(span=(0, 1))
        self.assertEqual((wires[0].hear("web"), wires[1].hear(name="web")), (("ack", 1), ("ack", 1)))
        self.assertEqual((wires[0].on_the_way("web"), wires[1].on_the_way(name="web")), ((0, 1), (0, 1)))
        self.assertEqual(wires[0].state(), wires[1].state())
        self.assertEqual(wires[1].hear("web"), ("sale", (0, 2)))
        self.assertEqual(wires[0].state()[1], (401, 0, 0))

    def test_copies(self):
        rooms, tables, table, span = [1, 1], [["a", [1, 1]]], [2, 2], [0, 1]
        wire = Wire(rooms, tables)
        wire.tell("a", table)
        wire.sell("a", span)
        before = wire.state()
        rooms[0] = tables[0][1][0] = table[0] = 7
        tables.clear()
        span[1] = 2
        self.assertEqual(wire.state(), before)

    def test_equal(self):
        self.assertTrue(used_wire() == used_wire())
        self.assertFalse(used_wire() != used_wire())
        for word, name, what in (("tell", "web", (0, 0, 0)), ("arrive", "web", None), ("sell", "fax", (2, 3)),
                                 ("hear", "fax", None), ("own", None, (0, 1))):
            other = used_wire()
            do(other, word, name, what)
            self.assertFalse(used_wire() == other)
            self.assertTrue(used_wire() != other)
        for other in (Wire(ROOMS, TABLES[::-1]), used_wire().state(), None, 1, "web"):
            self.assertFalse(used_wire() == other)
        self.assertFalse(Wire([1], []) == Wire([2], []))

    def test_the_line_of_a_name(self):
        wire = used_wire()
        self.assertEqual([wire.line(name).state() for name in wire.names], list(wire.state()[2]))


class TestWrongWires(Case):
    def test_wrong_rooms(self):
        for value in NO_SEQUENCES:
            self.refuse(BadItem, (None,), Wire, value, None)
        for value in NO_NUMBERS + (-1, 401):
            self.refuse(BadItem, (1,), Wire, [400, value, None], None)
        self.refuse(TooMany, (30,), Wire, [0] * 31, None)
        self.refuse(BadItem, (31,), Wire, [0] * 31 + [None], None)
        self.assertEqual(len(Wire([400] * 30, [("a", [400] * 30)]).rooms), 30)

    def test_tables_that_are_no_pairs(self):
        for value in NO_SEQUENCES:
            self.refuse(BadItem, (None,), Wire, ROOMS, value)
        for value in NO_PAIRS:
            self.refuse(BadItem, (1,), Wire, ROOMS, [("A", None), value, None])
        self.refuse(TooMany, (6,), Wire, ROOMS, [("A", None)] * 7)
        self.refuse(BadItem, (7,), Wire, ROOMS, [("A", None)] * 7 + [("a",)])
        self.assertEqual(len(Wire(ROOMS, [(f"a{k}", ROOMS) for k in range(6)]).names), 6)

    def test_wrong_channels_one_after_the_other(self):
        for value in NO_NAMES:
            self.refuse(BadItem, (1,), Wire, ROOMS, [TABLES[0], (value, None), ("A", None)])
        self.refuse(Taken, ("web",), Wire, ROOMS, [TABLES[0], ("web", None), ("A", None)])
        self.refuse(BadItem, (None,), Wire, ROOMS, [("web", None), ("web", None)])
        self.refuse(BadItem, (2,), Wire, ROOMS, [("web", (1, 1, -1)), ("A", None)])

    def wrong_tables(self):
        for value in NO_SEQUENCES + ([], (1, 1), [1] * 4, [None, 1], [None] * 4):
            yield value, None
        for value in NO_NUMBERS + (-1, 401):
            yield (1, value, 1), 1
            yield (1, 400, value), 2
            yield [value, value, None], 0

    def test_wrong_tables(self):
        for value, index in self.wrong_tables():
            self.refuse(BadItem, (index,), Wire, ROOMS, [TABLES[0], ("fax", value), None][:2])
            wire = used_wire()
            self.refuse(BadItem, (index,), wire.tell, "fax", value)
            self.assertEqual(wire, used_wire())

    def test_unknown_names_come_first(self):
        for name in ("we", "", "WEB", None, 3, True, [], ["web"], ("web",), {}):
            wire = used_wire()
            for function, args in ((wire.tell, (None,)), (wire.arrive, ()), (wire.sell, ((0, 9),)), (wire.hear, ()),
                                   (wire.on_the_way, ()), (wire.line, ())):
                self.refuse(Unknown, (name,), function, name, *args)
            self.assertEqual(wire, used_wire())

    def test_wrong_numbers_of_own_sales(self):
        for value in NO_NUMBERS + (-1, 0, 401):
            wire = used_wire()
            self.refuse(BadNumber, (value,), wire.sell_own, (0, 1), value)
            self.assertEqual(wire, used_wire())

    def test_a_refused_sale_changes_nothing(self):
        wire = Wire(ROOMS, [("a", (2, 1, 0))])
        self.refuse(Refused, ("limit", 2), wire.sell, "a", (0, 3))
        self.assertEqual(wire, Wire(ROOMS, [("a", (2, 1, 0))]))
