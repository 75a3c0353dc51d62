"""Point 16: bookings of kinds over several nights."""

from random import Random

from keptnights.errors import Unknown
from keptnights.kindnights import all_nights, first_barred, more_over, narrow_nights, seatings_over, slack_rows
from keptnights.kindnights import spans_booked, upgrades_over, wants_at
from keptnights.kinds import Kinds, slacks
from keptnights.seatings import fewest_steps, fewest_upgrades, seat_bar, seating
from keptnights.selling import more_of
from keptnights.spans import turning_nights
from tests.support import Case, random_span, small_spans

KINDS = Kinds([("z", 1), ("m", 2), ("a", 1)])


class TestKindNights(Case):
    def random_bookings(self, many):
        random = Random(16)
        for _ in range(many):
            yield [(random.choice(KINDS.names), random_span(random, 6)) for _ in range(random.randrange(7))]

    def wants(self, bookings, night):
        return tuple(sum(kind == name and span[0] <= night < span[1] for kind, span in bookings) for name in KINDS.names)

    def test_night_by_night(self):
        barred = 0
        for bookings in self.random_bookings(200):
            spans = tuple(span for _, span in bookings)
            self.assertEqual(self.ask(spans_booked, bookings), spans)
            nights = range(min([s[0] for s in spans], default=0), max([s[1] for s in spans], default=0))
            self.assertEqual(self.ask(all_nights, bookings), tuple(nights))
            for night in range(7):
                self.assertEqual(self.ask(wants_at, KINDS, bookings, night), self.wants(bookings, night))
            bars = [(night, seat_bar(KINDS, self.wants(bookings, night))) for night in nights]
            bars = [bar for bar in bars if bar[1] is not None]
            barred += bool(bars)
            self.assertEqual(self.ask(first_barred, KINDS, bookings), bars[0] if bars else None)
            sums = tuple(sum(function(KINDS, self.wants(bookings, night)) for night in nights)
                         for function in (fewest_upgrades, fewest_steps)) if not bars else None
            self.assertEqual(self.ask(upgrades_over, KINDS, bookings), sums)
            self.assertEqual(self.ask(seatings_over, KINDS, bookings), None if bars else self.changes(bookings))
        self.assertTrue(20 < barred < 180)

    def changes(self, bookings):
        found, before = [], ()
        for night in turning_nights([span for _, span in bookings]):
            seats = seating(KINDS, self.wants(bookings, night))
            if seats != before:
                found.append((night, seats))
            before = seats
        return tuple(found)

    def test_nights_of_a_span(self):
        for bookings in self.random_bookings(60):
            for span in small_spans(7):
                rows = [self.wants(bookings, night) for night in range(*span)]
                for name in KINDS.names:
                    least = min(more_of(KINDS, row, name) for row in rows)
                    self.assertEqual(more_over(KINDS, bookings, name, span), least)
                free = [4 - sum(row) for row in rows]
                narrow = tuple(night for night, many in zip(range(*span), free) if many == min(free))
                self.assertEqual(narrow_nights(KINDS, bookings, span), (min(free), narrow))
                self.assertEqual(slack_rows(KINDS, bookings, span), tuple(slacks(KINDS, row) for row in rows))

    def test_all_forms(self):
        bookings = [("m", (3, 6)), ("z", (4, 5)), ("z", (4, 8))]
        self.assertEqual(self.ask(more_over, KINDS, bookings, "z", (0, 9)), 1)
        self.assertEqual(self.ask(narrow_nights, KINDS, bookings, (3, 7)), (1, (4,)))
        self.assertEqual(self.ask(slack_rows, KINDS, bookings, (3, 5)), ((3, 2, 1), (1, 2, 1)))

    def test_a_seating_that_stays_the_same_is_not_told_again(self):
        bookings = [("z", (0, 2)), ("z", (2, 4)), ("m", (6, 7))]
        one, other = (("z", "z", 1),), (("m", "m", 1),)
        self.assertEqual(seatings_over(KINDS, bookings), ((0, one), (4, ()), (6, other), (7, ())))

    def test_no_bookings(self):
        self.assertEqual(self.ask(wants_at, KINDS, [], 0), (0, 0, 0))
        self.assertEqual((self.ask(spans_booked, []), self.ask(all_nights, [])), ((), ()))
        self.assertIsNone(self.ask(first_barred, KINDS, []))
        self.assertEqual(self.ask(upgrades_over, KINDS, []), (0, 0))
        self.assertEqual(self.ask(seatings_over, KINDS, []), ())
        self.assertEqual(self.ask(more_over, KINDS, [], "m", (0, 36525)), 3)
        self.assertEqual(self.ask(narrow_nights, KINDS, [], (36523, 36525)), (4, (36523, 36524)))

    def test_unknown_names(self):
        for name in ("c", None, True, 0):
            self.refuse(Unknown, (name,), more_over, KINDS, [("z", (0, 1))], name, (0, 2))

    def test_many_nights_and_bookings(self):
        kinds = Kinds([(f"k{k}", 400) for k in range(8)])
        bookings = [(f"k{k % 8}", (k * 30, k * 30 + 3000)) for k in range(1000)]
        self.assertIsNone(first_barred(kinds, bookings))
        self.assertEqual(upgrades_over(kinds, bookings), (0, 0))
        self.assertEqual(len(all_nights(bookings)), 32970)
        self.assertEqual(len(slack_rows(kinds, bookings, (0, 36525))), 36525)
        self.assertEqual(more_over(kinds, bookings, "k7", (0, 36525)), 387)
