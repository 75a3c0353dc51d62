"""Point 36: spans filled with several stays."""

from random import Random

from keptnights.offers import Offer, best_offer
from keptnights.ways import cheapest_way, fills, first_saving, is_way, offer_named, saved_cents, way_cents
from tests.support import Case, random_span
from tests.test_offers import price_by_words, random_offer
from tests.test_splitting import all_parts

CHEAP = Offer("cheap", [10] * 7, least=2, most=3)
SHORT = Offer("short", [30] * 7, most=1)
LONG = Offer("long", [20] * 7, [(5, 10)])


def best_quote(offers, span):
    """The first pair (name, price) with the least price, or None."""
    priced = [(offer.name, price_by_words(offer, span)) for offer in offers]
    return min([pair for pair in priced if pair[1] is not None], key=lambda pair: pair[1], default=None)


def all_ways(offers, span):
    """The tuples (cents, number of stays, ends of stays, way) of all ways whose stays are by their best offers."""
    for parts in all_parts(span[1] - span[0]):
        way, cents, first = [], 0, span[0]
        for part in parts:
            quote = best_quote(offers, (first, first + part))
            if quote is None:
                break
            way.append((quote[0], (first, first + part)))
            cents, first = cents + quote[1], first + part
        else:
            yield cents, len(way), [stay[1][1] for stay in way], tuple(way)


class TestWays(Case):
    def random_offers(self, many, longest=7):
        random = Random(36)
        for _ in range(many):
            offers = [random_offer(random, f"o{k}", random.choice((3, 300)), 5) for k in range(random.randint(0, 4))]
            yield offers, random_span(random, 34, longest)

    def test_against_all_ways(self):
        kinds = {}
        for offers, span in self.random_offers(250):
            best = min(all_ways(offers, span), default=None)
            found = self.ask(cheapest_way, offers, span)
            self.assertEqual(found, None if best is None else (best[0], best[3]))
            if found is not None:
                self.assertIs(is_way(offers, span, found[1]), True)
                self.assertEqual(way_cents(offers, found[1]), found[0])
            whole = best_quote(offers, span)
            saved = None if whole is None else whole[1] - best[0]
            self.assertEqual(self.ask(saved_cents, offers, span), saved)
            kinds[(best is None, saved is None, bool(saved), best is not None and best[1] > 1)] = True
        self.assertEqual(len(kinds), 4)

    def test_the_first_span_that_saves(self):
        answers = {True: 0, False: 0}
        for offers, (first, _) in self.random_offers(120):
            spans = [(first, first + many) for many in range(1, 8)]
            saving = [span for span in spans if best_quote(offers, span) is not None
                      and best_quote(offers, span)[1] > min(all_ways(offers, span))[0]]
            for most in (0, 3, 7):
                found = [span for span in saving if span[1] - span[0] <= most]
                self.assertEqual(self.ask(first_saving, offers, first, most), found[0] if found else None)
            answers[bool(saving)] += 1
        self.assertTrue(min(answers.values()) > 20)

    def test_fewest_stays_then_the_earliest_ends(self):
        flat = Offer("flat", [10] * 7, most=3)
        self.assertEqual(cheapest_way([flat], (0, 4)), (40, (("flat", (0, 1)), ("flat", (1, 4)))))
        self.assertEqual(cheapest_way([flat], (0, 7)), (70, (("flat", (0, 1)), ("flat", (1, 4)), ("flat", (4, 7)))))
        self.assertEqual(cheapest_way([Offer("a", [0] * 7), flat], (5, 9)), (0, (("a", (5, 9)),)))

    def test_an_example(self):
        offers = (SHORT, CHEAP, LONG)
        self.assertEqual(cheapest_way(offers, (3, 8)), (50, (("cheap", (3, 5)), ("cheap", (5, 8)))))
        self.assertEqual((best_offer(offers, (3, 8)), saved_cents(offers, (3, 8))), (("long", 90), 40))
        self.assertEqual(cheapest_way(offers, (3, 4)), (20, (("long", (3, 4)),)))
        self.assertEqual(first_saving(offers, 3, 9), (3, 7))
        self.assertIsNone(first_saving(offers, 3, 3))
        self.assertEqual(cheapest_way([SHORT, CHEAP], (3, 7)), (40, (("cheap", (3, 5)), ("cheap", (5, 7)))))
        self.assertIsNone(saved_cents([SHORT, CHEAP], (3, 7)))

    def test_spans_that_cannot_be_filled(self):
        pairs = Offer("pairs", [5] * 7, least=2, most=2)
        self.assertEqual((self.ask(cheapest_way, [pairs], (0, 5)), self.ask(cheapest_way, [], (0, 1))), (None, None))
        self.assertEqual(cheapest_way([pairs], (0, 4))[0], 20)
        self.assertEqual((saved_cents([pairs], (0, 4)), saved_cents([], (0, 4))), (None, None))
        self.assertEqual((first_saving([pairs], 0, 9), first_saving([], 0, 9)), (None, None))
        shut = Offer("shut", [5] * 7, days=[])
        self.assertIsNone(cheapest_way([shut], (0, 1)))

    def test_the_end_of_the_calendar(self):
        offers = [Offer("a", [9] * 7, free=None), Offer("b", [5] * 7, least=2, most=2)]
        self.assertEqual(first_saving(offers, 36520, 60), (36520, 36523))
        self.assertEqual(first_saving(offers, 36522, 60), (36522, 36525))
        self.assertIsNone(first_saving(offers, 36523, 60))
        self.assertEqual(cheapest_way(offers, (36521, 36525)), (20, (("b", (36521, 36523)), ("b", (36523, 36525)))))

    def test_offers_by_name(self):
        offers = [SHORT, CHEAP, LONG, Offer("cheap", [1] * 7)]
        for name, offer in (("short", SHORT), ("cheap", CHEAP), ("long", LONG), ("wide", None), ("", None)):
            self.assertTrue(self.ask(offer_named, offers, name) == offer)
        self.assertIsNone(self.ask(offer_named, [], "a"))

    def test_cents_of_a_way(self):
        offers = [SHORT, CHEAP, LONG, Offer("cheap", [1] * 7)]
        for way, cents in (((), 0), ([("short", (0, 1))], 30), ([("cheap", (0, 2)), ("long", (9, 14))], 20 + 90),
                           ([("cheap", (0, 4))], None), ([("short", (0, 1)), ("cheap", (1, 2))], None),
                           ([("wide", (0, 1))], None), ([("long", (0, 1)), ("wide", (1, 2))], None),
                           ([("cheap", (0, 2))] * 3, 60)):
            self.assertEqual(self.ask(way_cents, offers, way), cents)

    def test_ways_that_fill_a_span(self):
        offers = [SHORT, CHEAP, LONG]
        for way, right in (([("cheap", (2, 4)), ("short", (4, 5))], True), ([("long", (2, 5))], True),
                           ([("cheap", (2, 4))], False), ([("short", (4, 5)), ("cheap", (2, 4))], False),
                           ([("cheap", (2, 4)), ("cheap", (4, 6))], False), ([("cheap", (2, 4)), ("short", (5, 6))], False),
                           ([("cheap", (2, 4)), ("cheap", (3, 5))], False), ([("short", (3, 4)), ("short", (4, 5))], False),
                           ([], False), ([("long", (2, 5)), ("long", (5, 6))], False)):
            self.assertIs(self.ask(fills, way, (2, 5)), right)
            self.assertIs(self.ask(is_way, offers, (2, 5), way), right)
        for way in ([("wide", (2, 5))], [("short", (2, 5))], [("cheap", (2, 4)), ("cheap", (4, 5))]):
            self.assertIs(self.ask(fills, way, (2, 5)), True)
            self.assertIs(self.ask(is_way, offers, (2, 5), way), False)

    def test_long_spans(self):
        random = Random(360)
        offers = [random_offer(random, f"o{k}", 99999, 30) for k in range(10)] + [LONG]
        for span in ((1000, 1365), (0, 90)):
            cents, way = cheapest_way(offers, span)
            self.assertTrue(is_way(offers, span, way))
            self.assertEqual(way_cents(offers, way), cents)
            # No other way of up to three stays in the place of each stay costs less.
            for _, (first, leave) in way:
                self.assertEqual(saved_cents(offers, (first, leave)), 0)
        first_saving(offers, 0, 365)
