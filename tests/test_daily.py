"""Point 42: what folios bring on each day."""

from random import Random

from keptnights.bills import Rules, bill
from keptnights.daily import daily, daily_of, gathered, on_day, up_to
from keptnights.errors import Unknown
from keptnights.folios import Folio
from keptnights.offers import Offer
from keptnights.policies import Policy
from keptnights.splits import split_cents
from keptnights.taxes import Taxes
from tests.guests import random_events, random_folio, random_rules
from tests.support import Case
from tests.test_bills import HERE, RULES, STAY, last_of, lines_by_words
from tests.test_offers import rates_by_words


def days_by_words(rules, folio):
    """A dict of what a folio brings on each day."""
    nights, charges, penalty, taxes = lines_by_words(rules, folio)
    gone = [event[2] for event in folio.events if event[1] == "void"]
    pairs = [(event[0][0] // 1440, event[3]) for event in folio.events if event[1] == "charge" and event[0] not in gone]
    if nights:
        first, leave = last_of(folio, "stay")[2]
        left = last_of(folio, "left")
        leave = left[2] if left and first < left[2] < leave else leave
        offer = next(offer for offer in rules.offers if offer.name == last_of(folio, "stay")[3])
        parts = split_cents(sum(cents for _, cents in nights), rates_by_words(offer, (first, leave)))
        pairs += [(first + k, part + rules.taxes.night_cents) for k, part in enumerate(parts)]
    taxed = [(max(day for day, _ in pairs), cents) for label, cents in taxes if label == "tax"]
    pairs += taxed + [(last_of(folio, "state")[0][0] // 1440, cents) for _, cents in penalty]
    found = {}
    for day, cents in pairs:
        found[day] = found.get(day, 0) + cents
    return tuple((day, found[day]) for day in sorted(found) if found[day])


class TestDaily(Case):
    def test_against_the_words_of_the_point(self):
        random = Random(42)
        for _ in range(500):
            rules, folio = random_rules(random), random_folio(random)
            found = self.ask(daily, rules, folio)
            self.assertEqual(found, days_by_words(rules, folio))
            self.assertEqual(sum(cents for _, cents in found), bill(rules, folio).total)

    def test_several_folios(self):
        random = Random(420)
        for _ in range(60):
            rules = random_rules(random)
            folios = [random_folio(random) for _ in range(random.randrange(5))]
            found = self.ask(daily_of, rules, folios)
            totals = {}
            for folio in folios:
                for day, cents in days_by_words(rules, folio):
                    totals[day] = totals.get(day, 0) + cents
            self.assertEqual(found, tuple((day, totals[day]) for day in sorted(totals) if totals[day]))
            self.assertEqual(daily_of(rules, folios[::-1]), found)
            for day in range(-1, 12):
                self.assertEqual(self.ask(on_day, found, day), totals.get(day, 0))
                self.assertEqual(self.ask(up_to, found, day), sum(totals[k] for k in totals if k <= day))

    def test_every_order_and_two_desks(self):
        random = Random(421)
        for _ in range(100):
            rules = random_rules(random)
            events = list({event[0]: event for event in random_events(random)}.values())
            found = daily(rules, Folio(events))
            random.shuffle(events)
            cut = random.randint(0, len(events))
            front, back = Folio(events[:cut]), Folio(events[cut:])
            self.assertEqual(daily(rules, front.joined(back)), found)
            self.assertEqual(daily(rules, back.joined(front)), found)

    def test_nights_and_taxes(self):
        # The rates are 1000, 2000, 3000 and 4000, a tenth less; the percent is of the last night.
        self.assertEqual(daily(RULES, Folio([STAY, HERE])), ((2, 1150), (3, 2050), (4, 2950), (5, 3850 + 900)))
        granted = Folio([STAY, HERE, ((1, "a"), "grant", 100)])
        self.assertEqual(daily(RULES, granted), ((2, 250), (3, 250), (4, 250), (5, 250)))
        odd = Rules([Offer("day", [1] * 7)], Policy([], 0, 0), Taxes(0, 0))
        folio = Folio([STAY, HERE, ((1, "a"), "grant", 50)])
        # What was granted is taken off first: two cents for four nights, to the first ones.
        self.assertEqual(daily(odd, folio), ((2, 1), (3, 1)))
        free = Rules([Offer("day", [0] * 7)], Policy([], 0, 0), Taxes(3, 0))
        self.assertEqual(daily(free, folio), ((2, 3), (3, 3), (4, 3), (5, 3)))

    def test_charges_and_penalties(self):
        charge = ((1440 * 9 + 1439, "bar"), "charge", "tea", 105)
        self.assertEqual(daily(RULES, Folio([charge])), ((9, 116),))
        self.assertEqual(daily(RULES, Folio([charge, ((0, "a"), "void", charge[0])])), ())
        self.assertEqual(daily(RULES, Folio([STAY, HERE, charge]))[-2:], ((5, 3850), (9, 105 + 911)))
        early = ((5, "bar"), "charge", "tea", -1150)
        self.assertEqual(daily(RULES, Folio([STAY, HERE, early, ((1440 * 2, "a"), "charge", "tea", -1150)])),
                         ((0, -1150), (3, 2050), (4, 2950), (5, 3850 + 670)))
        cancelled = ((1440 * 2 - 1, "a"), "state", "cancelled")
        self.assertEqual(daily(RULES, Folio([STAY, cancelled])), ((1, 1000),))
        self.assertEqual(daily(RULES, Folio([STAY, ((99999999, "a"), "state", "absent"), charge])), ((9, 116), (69444, 10000)))

    def test_days_without_cents(self):
        folio = Folio([((5, "a"), "charge", "tea", 4), ((1445, "a"), "charge", "tea", 4), ((1446, "a"), "charge", "tea", -4)])
        self.assertEqual((daily(RULES, folio), daily(RULES, Folio())), (((0, 4),), ()))
        self.assertEqual((self.ask(daily_of, RULES, []), self.ask(on_day, (), 3), self.ask(up_to, (), 3)), ((), 0, 0))

    def test_gathered(self):
        self.assertEqual(self.ask(gathered, [(5, 1), (2, 3), (5, -1), (2, 4), (9, 0), (1, -7)]), ((1, -7), (2, 7)))
        self.assertEqual(self.ask(gathered, []), ())

    def test_offers_that_are_not_there(self):
        folio = Folio([STAY[:3] + ("gone",), HERE])
        self.refuse(Unknown, ("gone",), daily, RULES, folio)
        self.refuse(Unknown, ("gone",), daily_of, RULES, [Folio(), folio])

    def test_the_longest_stay(self):
        rules = random_rules(Random(422))
        folio = Folio([((0, "a"), "stay", (0, 36525), "week"), HERE, ((9, "a"), "grant", 7)])
        found = daily(rules, folio)
        self.assertEqual((sum(cents for _, cents in found), found), (bill(rules, folio).total, days_by_words(rules, folio)))
