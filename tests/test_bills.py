"""Point 41: bills."""

from fractions import Fraction
from math import floor
from random import Random

from keptnights.bills import (Bill, Rules, bill, charge_lines, owed_by, paid_by, paid_sum, penalty_lines, price_of_nights,
                              shares_of, span_stayed, state_of, stay_lines, stay_of)
from keptnights.errors import Taken, TooMany, Unknown
from keptnights.folios import Folio
from keptnights.offers import Offer
from keptnights.policies import Policy
from keptnights.splits import split_cents
from keptnights.taxes import Taxes
from tests.guests import random_event, random_events, random_folio, random_rules
from tests.support import Case
from tests.test_offers import rates_by_words

DAY = Offer("day", [1000, 2000, 3000, 4000, 5000, 6000, 7000], [(3, 10)], least=2)
RULES = Rules([DAY, Offer("day", [1] * 7), Offer("zero", [0] * 7)], Policy([(3, 0), (1, 1)], 2, 9), Taxes(250, 10))
# Night 2 is a Monday.
STAY = ((0, "front"), "stay", (2, 6), "day")
HERE = ((1, "front"), "state", "here")


def away_from_zero(value):
    nearest = floor(abs(value) + Fraction(1, 2))
    return nearest if value >= 0 else -nearest


def last_of(folio, word):
    return max([event for event in folio.events if event[1] == word], default=None)


def lines_by_words(rules, folio):
    """The lines of a bill as four lists: of the stay, of charges, of the penalty, of taxes."""
    gone = [event[2] for event in folio.events if event[1] == "void"]
    stay, state, left, grant = [last_of(folio, word) for word in ("stay", "state", "left", "grant")]
    nights, penalty, taxes = [], [], []
    charges = [event[2:] for event in folio.events if event[1] == "charge" and event[0] not in gone]
    offers = [offer for offer in rules.offers if stay and offer.name == stay[3]]
    many = 0
    if stay and state and state[2] == "here":
        first, leave = stay[2]
        if left and first < left[2] < leave:
            leave = left[2]
        many = leave - first
        rates = sorted(rates_by_words(offers[0], (first, leave)))
        free = many // offers[0].free[0] * offers[0].free[1] if offers[0].free else 0
        percent = [0] + [some for least, some in offers[0].percents if least <= many]
        price = away_from_zero(Fraction(sum(rates[free:]) * (100 - percent[-1]), 100))
        nights = [("nights", price)]
        if grant and away_from_zero(Fraction(price * grant[2], 100)):
            nights.append(("granted", -away_from_zero(Fraction(price * grant[2], 100))))
    if stay and state and state[2] in ("cancelled", "absent"):
        charged = rules.policy.absent
        if state[2] == "cancelled":
            ahead = stay[2][0] - state[0][0] // 1440
            charged = [some for days, some in rules.policy.steps if days <= ahead] + [rules.policy.late]
            charged = charged[0]
        penalty = [("penalty", sum(rates_by_words(offers[0], stay[2])[:charged]))]
    taxes = [("nighttax", many * rules.taxes.night_cents)]
    taxes.append(("tax", away_from_zero(Fraction(sum(cents for _, cents in nights + charges) * rules.taxes.percent, 100))))
    return nights, charges, [pair for pair in penalty if pair[1]], [pair for pair in taxes if pair[1]]


class TestBills(Case):
    def bill_of(self, *events, rules=RULES):
        folio = Folio(events)
        found = self.ask(bill, rules, folio)
        self.assertTrue(bill(rules, Folio(events[::-1])) == found)
        return found

    def test_against_the_words_of_the_point(self):
        random = Random(41)
        seen = {}
        for _ in range(600):
            rules, folio = random_rules(random), random_folio(random)
            nights, charges, penalty, taxes = lines_by_words(rules, folio)
            lines = nights + charges + penalty + taxes
            found = self.ask(bill, rules, folio)
            gone = [event[2] for event in folio.events if event[1] == "void"]
            payments = [event[2:] for event in folio.events if event[1] == "paid" and event[0] not in gone]
            paid, total = sum(cents for _, cents in payments), sum(cents for _, cents in lines)
            self.assertEqual((found.lines, found.total), (tuple(lines), total))
            self.assertEqual((found.paid, found.due), (paid, total - paid))
            self.assertEqual((paid_sum(folio), [list(map(tuple, part)) for part in (
                stay_lines(rules, folio), charge_lines(folio), penalty_lines(rules, folio))]),
                (paid, [nights, charges, penalty]))
            shares = last_of(folio, "shares")
            weights = shares[2] if shares else (("guest", 1),)
            self.assertEqual(self.ask(shares_of, folio), weights)
            parts = split_cents(total, [weight for _, weight in weights])
            self.assertEqual(found.shares, tuple((payer, part) for (payer, _), part in zip(weights, parts)))
            by = {name: sum(cents for payer, cents in payments if payer == name) for name, _ in payments}
            self.assertEqual(self.ask(paid_by, folio), tuple(sorted(by.items())))
            owed = tuple((payer, part - by.get(payer, 0)) for payer, part in found.shares)
            self.assertEqual(self.ask(owed_by, rules, folio), owed)
            for label, cents in lines:
                seen[label] = seen.get(label, 0) + 1
        for label in ("nights", "granted", "penalty", "nighttax", "tax"):
            self.assertTrue(seen[label] > 20, seen)

    def test_lists_of_lines(self):
        folio = Folio([STAY, HERE, ((2, "bar"), "charge", "tea", 300)])
        for lines in (stay_lines(RULES, folio), charge_lines(folio), penalty_lines(RULES, folio)):
            self.assertIsInstance(lines, list)
            self.assertTrue(all(isinstance(pair, tuple) for pair in lines))
        self.assertEqual(stay_lines(rules=RULES, folio=Folio()), [])

    def test_a_stay_of_each_state(self):
        self.assertEqual(self.bill_of().fields(), ((), 0, 0, 0, (("guest", 0),)))
        self.assertEqual(self.bill_of(HERE).lines, ())
        self.assertEqual(self.bill_of(STAY).lines, ())
        self.assertEqual(self.bill_of(STAY, ((1, "a"), "state", "booked")).lines, ())
        here = (("nights", 9000), ("nighttax", 1000), ("tax", 900))
        self.assertEqual(self.bill_of(STAY, HERE).lines, here)
        self.assertEqual(self.bill_of(STAY, ((1, "a"), "state", "absent")).lines, (("penalty", 10000),))
        for minute, cents in ((2, 1000), (1440, 1000), (2 * 1440 - 1, 1000), (2 * 1440, 3000), (99999999, 3000)):
            self.assertEqual(self.bill_of(STAY, ((minute, "zz"), "state", "cancelled")).lines, (("penalty", cents),))
        # The last state and the last stay count, in whatever order they are told.
        self.assertEqual(self.bill_of(((9, "a"), "state", "absent"), HERE, ((10, "a"), "state", "here"), STAY).lines, here)
        later = ((8, "a"), "stay", (2, 4), "day")
        self.assertEqual(self.bill_of(later, STAY, HERE).lines, (("nights", 3000), ("nighttax", 500), ("tax", 300)))

    def test_free_cancelling(self):
        stay = ((0, "front"), "stay", (5, 9), "day")
        for days, nights in ((2, []), (4, [("penalty", 4000)]), (5, [("penalty", 9000)])):
            folio = Folio([stay, ((days * 1440, "a"), "state", "cancelled")])
            self.assertEqual(penalty_lines(RULES, folio), nights)
            self.assertEqual(self.ask(bill, RULES, folio).total, sum(cents for _, cents in nights))

    def test_a_guest_who_leaves(self):
        for morning, span in ((1, (2, 6)), (2, (2, 6)), (3, (2, 3)), (5, (2, 5)), (6, (2, 6)), (7, (2, 6)), (99999999, (2, 6))):
            folio = Folio([STAY, HERE, ((1, "a"), "left", morning)])
            self.assertEqual(self.ask(span_stayed, folio), span)
        # The last one alone is looked at.
        folio = Folio([STAY, HERE, ((1, "b"), "left", 9), ((1, "a"), "left", 3)])
        self.assertEqual(span_stayed(folio), (2, 6))
        self.assertEqual(self.bill_of(STAY, HERE, ((1, "a"), "left", 4)).lines, (("nights", 3000), ("nighttax", 500), ("tax", 300)))
        for word in ("booked", "cancelled", "absent"):
            self.assertIsNone(span_stayed(Folio([STAY, ((1, "a"), "state", word)])))
        self.assertEqual((span_stayed(Folio([HERE])), span_stayed(Folio([STAY]))), (None, None))

    def test_states_and_stays(self):
        self.assertEqual((self.ask(state_of, Folio()), self.ask(stay_of, Folio())), ("booked", None))
        folio = Folio([STAY, HERE, ((0, "bar"), "stay", (1, 2), "zero"), ((1, "a"), "state", "absent")])
        self.assertEqual((self.ask(state_of, folio), self.ask(stay_of, folio)), ("here", ((2, 6), "day")))
        # A void takes neither a state nor a stay back.
        folio.tell(((7, "a"), "void", (0, "front")))
        folio.tell(((8, "a"), "void", (1, "front")))
        self.assertEqual((state_of(folio), stay_of(folio)), ("here", ((2, 6), "day")))

    def test_grants(self):
        for percent, granted in ((0, ()), (100, (("granted", -9000),)), (33, (("granted", -2970),))):
            found = self.bill_of(STAY, HERE, ((1, "a"), "grant", percent))
            rest = 9000 + sum(cents for _, cents in granted)
            tax = (("tax", rest // 10),) if rest else ()
            self.assertEqual(found.lines, (("nights", 9000),) + granted + (("nighttax", 1000),) + tax)
        free = Rules([Offer("day", [0] * 7)], RULES.policy, Taxes(0, 10))
        self.assertEqual(self.bill_of(STAY, HERE, ((1, "a"), "grant", 50), rules=free).lines, (("nights", 0),))
        half = Rules([Offer("day", [1] * 7)], RULES.policy, Taxes(0, 0))
        short = ((0, "front"), "stay", (2, 3), "day")
        self.assertEqual(self.bill_of(short, HERE, ((1, "a"), "grant", 50), rules=half).lines, (("nights", 1), ("granted", -1)))
        self.assertEqual(self.bill_of(short, HERE, ((1, "a"), "grant", 49), rules=half).lines, (("nights", 1),))

    def test_charges_and_voids(self):
        tea, wine = ((5, "bar"), "charge", "tea", 300), ((4, "bar"), "charge", "wine", -45)
        self.assertEqual(self.bill_of(tea, wine).lines, (("wine", -45), ("tea", 300), ("tax", 26)))
        self.assertEqual(self.bill_of(tea, wine, ((1, "a"), "void", (5, "bar"))).lines, (("wine", -45), ("tax", -5)))
        self.assertEqual(self.bill_of(tea, ((9, "a"), "void", (5, "spa"))).lines, (("tea", 300), ("tax", 30)))
        self.assertEqual(self.bill_of(tea, ((6, "bar"), "charge", "tea", -300)).lines, (("tea", 300), ("tea", -300)))
        self.assertEqual(self.bill_of(((6, "bar"), "charge", "tea", 4)).lines, (("tea", 4),))

    def test_payments_and_shares(self):
        tea = ((5, "bar"), "charge", "tea", -100)
        paid = [((6, "a"), "paid", "bob", 50), ((6, "b"), "paid", "ann", 5), ((6, "c"), "paid", "bob", -50), ((7, "a"), "paid", "cy", 9),
                ((8, "a"), "void", (7, "a"))]
        found = self.bill_of(tea, *paid, ((9, "a"), "shares", (("bob", 1), ("ann", 0), ("di", 1))))
        self.assertEqual(found.fields(), ((("tea", -100), ("tax", -10)), -110, 5, -115, (("bob", -55), ("ann", 0), ("di", -55))))
        folio = Folio(paid + [tea, ((9, "a"), "shares", (("bob", 1), ("ann", 0), ("di", 1)))])
        self.assertEqual(self.ask(paid_by, folio), (("ann", 5), ("bob", 0)))
        self.assertEqual(self.ask(owed_by, RULES, folio), (("bob", -55), ("ann", -5), ("di", -55)))
        self.assertEqual(self.ask(owed_by, RULES, Folio([tea, ((9, "a"), "paid", "guest", 10)])), (("guest", -120),))
        self.assertEqual((self.ask(paid_by, Folio()), paid_sum(Folio()), shares_of(Folio())), ((), 0, (("guest", 1),)))

    def test_price_of_nights(self):
        # Nobody can have one night by this offer, but it has a price.
        self.assertEqual((DAY.is_open((2, 3)), self.ask(price_of_nights, DAY, (2, 3))), (False, 1000))
        self.assertEqual(price_of_nights(DAY, (2, 6)), DAY.price((2, 6)))
        self.assertEqual(price_of_nights(Offer("a", [1] * 7, [(2, 50)]), (2, 5)), 2)

    def test_offers_that_are_not_there(self):
        stay = ((0, "front"), "stay", (2, 6), "gone")
        for state in ("here", "cancelled", "absent"):
            folio = Folio([stay, ((1, "a"), "state", state), ((2, "bar"), "charge", "tea", 5)])
            for function in (bill, owed_by, stay_lines if state == "here" else penalty_lines):
                self.refuse(Unknown, ("gone",), function, RULES, folio)
        self.assertEqual(self.bill_of(stay).lines, ())
        self.assertEqual(self.bill_of(stay, ((1, "a"), "stay", (2, 3), "zero"), ((1, "b"), "state", "absent")).lines, ())

    def test_the_classes(self):
        rules = Rules([DAY], RULES.policy, RULES.taxes)
        self.assertEqual((rules.offers, rules.policy, rules.taxes), ((DAY,), RULES.policy, RULES.taxes))
        offers = [DAY]
        rules = Rules(taxes=RULES.taxes, policy=RULES.policy, offers=offers)
        offers.pop()
        self.assertEqual(rules.offers, (DAY,))
        made = self.ask(Bill, (("nights", 100), ("tax", -5)), 30, (("ann", 95),))
        self.assertEqual(made.fields(), ((("nights", 100), ("tax", -5)), 95, 30, 65, (("ann", 95),)))
        self.assertEqual((made.lines, made.total, made.paid, made.due, made.shares), made.fields())
        self.assertTrue(made == Bill([["nights", 100], ["tax", -5]], 30, [["ann", 95]]))
        for other in (Bill([("nights", 100)], 30, [("ann", 95)]), Bill([("nights", 100), ("tax", -5)], 31, [("ann", 95)]),
                      Bill([("nights", 100), ("tax", -5)], 30, [("ann", 94)]), made.fields(), None):
            self.assertTrue(made != other)
            self.assertFalse(made == other)

    def test_every_order_and_two_desks(self):
        random = Random(410)
        for _ in range(150):
            rules = random_rules(random)
            events = list({event[0]: event for event in random_events(random)}.values())
            found = bill(rules, Folio(events))
            for _ in range(3):
                random.shuffle(events)
                cut = random.randint(0, len(events))
                front, back = Folio(events[:cut] + events[:2]), Folio(events[cut:])
                self.assertTrue(bill(rules, front.joined(back)) == found == bill(rules, back.joined(front)))

    def test_the_largest_folios(self):
        random = Random(411)
        events = [random_event(random, k, "bar") for k in range(196)]
        events += [((300, "a"), "stay", (0, 36525), "week"), ((301, "a"), "state", "here"), ((302, "a"), "grant", 33),
                   ((303, "a"), "left", 36524)]
        folio = Folio(events)
        rules = random_rules(random)
        self.assertEqual(bill(rules, folio).lines, tuple(sum(lines_by_words(rules, folio), [])))
        self.refuse(TooMany, (200,), folio.tell, ((400, "a"), "left", 5))
        self.refuse(Taken, ((300, "a"),), folio.tell, ((300, "a"), "left", 5))
