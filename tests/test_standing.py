"""Point 29: the book of standing limits."""

from random import Random

from keptnights.errors import BadItem, Refused, Unknown
from keptnights.standing import (book_of, book_shows, breakable_night, first_over_rooms, is_book, is_oversold,
                                 open_night, reachable, sell_safely, sold_total, spare_row, standing, tell_safely,
                                 told_open, total_rows, widest_table)
from keptnights.wires import Wire
from tests.support import ANYTHING, NO_NUMBERS, Case, random_span, small_spans
from tests.test_wires import do, random_deed, random_wire, used_wire


def most_sold(tables, sales, nights):
    """By nights, the most that a channel can have sold, by a trial of all its steps."""
    seen, waiting = {}, [(0, tuple(sales))]
    while waiting:
        has, sold = waiting.pop()
        if (has, sold) not in seen:
            seen[(has, sold)] = True
            if has + 1 < len(tables):
                waiting.append((has + 1, sold))
            for first, leave in small_spans(nights):
                if all(sold[night] < tables[has][night] for night in range(first, leave)):
                    waiting.append((has, tuple(many + (first <= night < leave) for night, many in enumerate(sold))))
    return tuple(max(sold[night] for _, sold in seen) for night in range(nights))


def first_above(wire, rows):
    rooms, own, _ = wire.state()
    totals = [many + sum(row[night] for row in rows) for night, many in enumerate(own)]
    return next((night for night, many in enumerate(totals) if many > rooms[night]), None)


class TestStanding(Case):
    def random_wires(self, many, seed=29):
        random = Random(seed)
        for _ in range(many):
            yield random_wire(random, 3, 5, 19)

    def test_against_all_steps_of_the_channels(self):
        seen = {}
        for wire in self.random_wires(250):
            nights = len(wire.rooms)
            known, true = [], []
            for name, (told, has, heard_of, sales, heard, _) in wire.state()[2]:
                known.append(most_sold(told[heard_of:], heard, nights))
                true.append(most_sold(told[has:], sales, nights))
                self.assertEqual(self.ask(standing, wire, name), known[-1])
                self.assertEqual(self.ask(reachable, wire, name), true[-1])
            self.assertEqual(self.ask(open_night, wire), first_above(wire, known))
            self.assertEqual(self.ask(breakable_night, wire), first_above(wire, true))
            self.assertEqual(self.ask(book_of, wire), tuple(zip(wire.names, known)))
            self.assertEqual(self.ask(total_rows, wire, known),
                             tuple(own + sum(some) for own, *some in zip(wire.state()[1], *known)))
            totals = total_rows(wire, known)
            self.assertEqual(self.ask(first_over_rooms, wire, totals), open_night(wire))
            self.assertEqual(self.ask(spare_row, wire), tuple(many - total for many, total in zip(wire.rooms, totals)))
            sold = [row[3] for _, row in wire.state()[2]]
            self.assertEqual(self.ask(sold_total, wire), total_rows(wire, sold))
            self.assertIs(self.ask(is_oversold, wire), first_above(wire, sold) is not None)
            seen[(open_night(wire) is None, breakable_night(wire) is None, is_oversold(wire))] = True
        self.assertEqual(len(seen), 4, seen)

    def test_what_would_be_open_if_it_were_told(self):
        random = Random(290)
        answers = {True: 0, False: 0}
        for wire in self.random_wires(250, 291):
            for name in wire.names:
                table = tuple(random.randint(0, 3) for _ in wire.rooms)
                before = wire.state()
                night = self.ask(told_open, wire, name, table)
                answers[night is None] += 1
                self.assertEqual(wire.state(), before)
                if night is None:
                    self.assertEqual(tell_safely(wire, name, table), len(before[2][wire.names.index(name)][1][0]))
                    self.assertIsNone(open_night(wire))
                else:
                    self.refuse(Refused, ("rooms", night), tell_safely, wire, name, table)
                    self.assertEqual(wire.state(), before)
                    wire.tell(name, table)
                    self.assertEqual(open_night(wire), night)
        self.assertTrue(min(answers.values()) > 50)

    def test_the_widest_table(self):
        closed = 0
        for wire in self.random_wires(200, 292):
            for name in wire.names:
                table = self.ask(widest_table, wire, name)
                self.assertIs(table is None, open_night(wire) is not None)
                if table is not None:
                    closed += 1
                    self.assertIsNone(told_open(wire, name, table))
                    for night in range(len(table)):
                        wider = table[:night] + (table[night] + 1,) + table[night + 1:]
                        self.assertEqual(told_open(wire, name, wider), night)
        self.assertTrue(closed > 50)

    def test_own_sales(self):
        for wire in self.random_wires(200, 293):
            for span in small_spans(len(wire.rooms)):
                before, spare = wire.state(), spare_row(wire)
                full = [night for night in range(*span) if spare[night] <= 0]
                if full:
                    self.refuse(Refused, ("rooms", full[0]), sell_safely, wire, span)
                    self.assertEqual(wire.state(), before)
                else:
                    sell_safely(wire, list(span))
                    self.assertEqual(spare_row(wire), tuple(many - (span[0] <= night < span[1])
                                                            for night, many in enumerate(spare)))

    def test_safe_steps_never_oversell(self):
        random = Random(294)
        told = sold = 0
        for _ in range(60):
            nights, names = random.randint(1, 4), ("web", "fax", "tel")[:random.randint(1, 3)]
            wire = Wire([random.randrange(3, 9) for _ in range(nights)], [(name, (1,) * nights) for name in names])
            self.assertIsNone(open_night(wire))
            for _ in range(60):
                word, name, what = random_deed(random, names, nights, 5)
                if word == "tell" or word == "own":
                    try:
                        if word == "tell":
                            tell_safely(wire, name, random.choice((what, widest_table(wire, name))))
                            told += 1
                        else:
                            sell_safely(wire, what)
                            sold += 1
                    except Refused as refused:
                        self.assertEqual(refused.reason, "rooms")
                else:
                    do(wire, word, name, what)
                self.assertEqual((open_night(wire), breakable_night(wire), is_oversold(wire)), (None, None, False))
        self.assertTrue(told > 50 and sold > 50)

    def test_an_example(self):
        wire = used_wire()
        self.assertEqual((standing(wire, "web"), standing(wire, "fax")), ((3, 3, 3), (1, 1, 400)))
        self.assertEqual((reachable(wire, "web"), sold_total(wire)), ((3, 3, 3), (1, 3, 3)))
        self.assertEqual((open_night(wire), breakable_night(wire), is_oversold(wire)), (0, 0, True))
        self.assertEqual(spare_row(wire), (-1, -4, -401))
        wire.arrive("web")
        self.assertEqual((standing(wire, "web"), reachable(wire, "web")), ((3, 3, 3), (1, 1, 0)))
        wire.hear("web")
        wire.hear("web")
        self.assertEqual(standing(wire, "web"), (1, 1, 0))
        self.assertIsNone(widest_table(wire, "web"))

    def test_lists_and_names_of_arguments(self):
        wires = [Wire((4, 4), [("a", (1, 1))]) for _ in range(2)]
        self.assertEqual(tell_safely(wires[0], "a", (3, 2)), tell_safely(table=[3, 2], name="a", wire=wires[1]))
        self.assertIsNone(sell_safely(wires[0], (0, 2)))
        self.assertIsNone(sell_safely(span=[0, 2], wire=wires[1]))
        self.assertEqual(wires[0], wires[1])
        self.assertEqual(spare_row(wires[0]), (0, 1))
        self.refuse(Refused, ("rooms", 0), sell_safely, span=[0, 2], wire=wires[1])
        self.refuse(Refused, ("rooms", 1), tell_safely, table=[3, 4], name="a", wire=wires[1])

    def test_nothing_given(self):
        wire = Wire([], [])
        self.assertEqual((open_night(wire), breakable_night(wire), is_oversold(wire)), (None, None, False))
        self.assertEqual((book_of(wire), spare_row(wire), sold_total(wire), total_rows(wire, [])), ((), (), (), ()))
        wire = Wire([2, 0], [])
        self.assertEqual((open_night(wire), spare_row(wire), total_rows(wire, [])), (None, (2, 0), (0, 0)))
        self.assertEqual((standing(Wire([], [("a", [])]), "a"), widest_table(Wire([], [("a", [])]), "a")), ((), ()))

    def test_as_many_sales_as_rooms_close(self):
        wire = Wire([2, 1], [("a", (1, 0)), ("b", (1, 1))])
        self.assertIsNone(open_night(wire))
        self.assertEqual(self.ask(first_over_rooms, wire, (2, 1)), None)
        self.assertEqual(first_over_rooms(wire, (2, 2)), 1)
        self.assertEqual(widest_table(wire, "a"), (1, 0))

    def test_the_largest_wire(self):
        random = Random(295)
        names = [f"c{k}" for k in range(6)]
        wire = Wire([400] * 30, [(name, [60] * 30) for name in names])
        for _ in range(1500):
            word, name, what = random_deed(random, names, 30, 60)
            try:
                if word == "own":
                    sell_safely(wire, random_span(random, 30))
                elif word == "tell":
                    tell_safely(wire, name, what)
                else:
                    do(wire, word, name, what)
            except Refused:
                pass
        self.assertFalse(is_oversold(wire))
        self.assertIsNone(breakable_night(wire))
        self.assertTrue(book_shows(wire, book_of(wire)))


class TestBooks(Case):
    def test_one_thing_changed(self):
        wire = Wire((4, 4, 4), [("web", (2, 0, 1)), ("fax", (1, 1, 3))])
        book = (("web", (2, 0, 1)), ("fax", (1, 1, 3)))
        self.assertEqual(book_of(wire), book)
        self.assertEqual((self.ask(is_book, wire, book), self.ask(book_shows, wire, book)), (True, True))
        for k, (name, row) in enumerate(book):
            for night in range(3):
                for value, right, closes in ((row[night] + 1, True, sum(row[night] for _, row in book) < 4),
                                             (row[night] + 9, True, False), (row[night] - 1, False, False)):
                    pair = (name, row[:night] + (value,) + row[night + 1:])
                    other = book[:k] + (pair,) + book[k + 1:]
                    self.assertEqual((is_book(wire, other), book_shows(wire, other)), (right, closes))
                for value in NO_NUMBERS[:-1]:
                    pair = (name, row[:night] + (value,) + row[night + 1:])
                    self.assertIs(is_book(wire, book[:k] + (pair,) + book[k + 1:]), False)
            for pair in (("tel", row), (name, row[:2]), (name, row + (0,)), (name,), (name, row, 0), None, (row, name)):
                other = book[:k] + (pair,) + book[k + 1:]
                self.assertEqual((is_book(wire, other), book_shows(wire, other)), (False, False))
        for other in (book[::-1], book[:1], book + book[:1], dict(book)):
            self.assertEqual((is_book(wire, other), book_shows(wire, other)), (False, False))

    def test_an_open_book(self):
        wire = Wire((2, 2), [("a", (3, 0))])
        self.assertEqual((is_book(wire, book_of(wire)), book_shows(wire, book_of(wire))), (True, False))
        wire = Wire((2, 2), [("a", (2, 0))])
        wire.sell_own((1, 2), 3)
        self.assertEqual((is_book(wire, book_of(wire)), book_shows(wire, book_of(wire))), (True, False))

    def test_any_value(self):
        wire, none = Wire((2, 2), [("a", (0, 1))]), Wire((2, 2), [])
        for value in ANYTHING + ([("a", None)], [["a", [True, True]]], [["a", [0, 1.0]]], ["ab"], [("a", "01")]):
            self.assertEqual((is_book(wire, value), book_shows(wire, value)), (False, False))
            self.assertEqual((is_book(none, value), book_shows(none, value)), (value in ([], ()),) * 2)


class TestWrong(Case):
    def test_unknown_names_come_first(self):
        for name in ("we", None, 3, [], "WEB"):
            wire = used_wire()
            for function, args in ((standing, ()), (reachable, ()), (told_open, (None,)), (tell_safely, (None,)),
                                   (widest_table, ())):
                self.refuse(Unknown, (name,), function, wire, name, *args)
            self.assertEqual(wire, used_wire())

    def test_wrong_tables(self):
        wire = used_wire()
        self.assertIsNotNone(open_night(wire))
        for value, index in ((None, None), ((1, 1), None), ((1, 1, 1, 1), None), ((0, -1, 0), 1), ((0, 0, 401), 2),
                             ((True, 0, 0), 0), ("000", None)):
            self.refuse(BadItem, (index,), told_open, wire, "web", value)
            self.refuse(BadItem, (index,), tell_safely, wire, "web", value)
        self.assertEqual(wire, used_wire())
