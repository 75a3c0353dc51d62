"""Point 35: offers."""

from fractions import Fraction
from math import floor
from random import Random

from keptnights.dates import weekday
from keptnights.errors import BadItem, BadName, BadNumber, Refused, TooMany
from keptnights.offers import Offer, best_offer, quotes
from tests.support import NO_NAMES, NO_NUMBERS, NO_SEQUENCES, NO_SPANS, Case, as_lists, random_span
from tests.test_tariffs import too_many_percents, wrong_percents, wrong_weeks

WEEK = (100, 200, 300, 400, 500, 600, 700)
PERCENTS = ((3, 10), (7, 25))
SEASONS = (((10, 14), (1, 2, 3, 4, 5, 6, 7)), ((14, 15), (9,) * 7), ((20, 30), (50,) * 7))
FREE = (4, 1)
RIGHT = ("winter", WEEK, PERCENTS, SEASONS, FREE)
FIELDS = ("name", "week", "percents", "seasons", "free", "least", "most", "days")


def rates_by_words(offer, span):
    found = []
    for night in range(*span):
        weeks = [week for (first, leave), week in offer.seasons if first <= night < leave]
        found.append((weeks + [offer.week])[0][(5 + night) % 7])
    return tuple(found)


def price_by_words(offer, span):
    """The cents of a stay, None if it cannot be had."""
    many = span[1] - span[0]
    if not offer.least <= many <= offer.most or (5 + span[0]) % 7 not in offer.days:
        return None
    free = many // offer.free[0] * offer.free[1] if offer.free else 0
    percent = [0] + [some for nights, some in offer.percents if nights <= many]
    rated = sum(sorted(rates_by_words(offer, span), reverse=True)[:many - free])
    return floor(Fraction(rated * (100 - percent[-1]), 100) + Fraction(1, 2))


def random_offer(random, name="offer", highest=300, longest=9):
    """An offer whose seasons lie within the first thirty nights."""
    week = [random.randrange(highest) for _ in range(7)]
    steps = sorted(random.sample(range(2, longest + 2), random.randrange(3)))
    turns = sorted(random.sample(range(30), 2 * random.randrange(4)))
    seasons = [((turns[k], turns[k + 1]), [random.randrange(highest) for _ in range(7)]) for k in range(0, len(turns), 2)]
    every = random.randint(2, longest)
    free = random.choice((None, (every, random.randint(1, every - 1))))
    least = random.choice((1, 1, random.randint(1, longest)))
    return Offer(name, week, [(nights, random.randint(0, 100)) for nights in steps], seasons, free, least=least,
                 most=random.choice((60, random.randint(least, longest))),
                 days=random.sample(range(7), random.choice((3, 7, 7))))


class TestOffers(Case):
    def test_fields(self):
        offers = [Offer(*RIGHT, least=2, most=9, days=[6, 0, 6, 3]), Offer(*as_lists(RIGHT), least=2, most=9, days=(3, 0, 6)),
                  Offer(days=(0, 3, 6), most=9, least=2, free=FREE, seasons=SEASONS, percents=PERCENTS, week=WEEK, name="winter")]
        for offer in offers:
            self.assertEqual(offer.fields(), RIGHT + (2, 9, (0, 3, 6)))
            self.assertEqual(tuple(getattr(offer, name) for name in FIELDS), offer.fields())
            self.assertTrue(offer == offers[0])
        plain = self.ask(Offer, "a", WEEK)
        self.assertEqual(plain.fields(), ("a", WEEK, (), (), None, 1, 60, (0, 1, 2, 3, 4, 5, 6)))
        self.assertEqual(self.ask(Offer, *RIGHT).fields(), RIGHT + (1, 60, (0, 1, 2, 3, 4, 5, 6)))
        self.assertEqual(Offer("a", WEEK, days=()).days, ())

    def test_equal(self):
        offer = Offer(*RIGHT, least=2, most=9, days=[1, 2])
        self.assertFalse(offer != Offer(*RIGHT, least=2, most=9, days=[2, 1, 1]))
        for place, value in enumerate(("b", WEEK[::-1], (), (), None)):
            args = RIGHT[:place] + (value,) + RIGHT[place + 1:]
            self.assertFalse(offer == Offer(*args, least=2, most=9, days=[1, 2]))
        for named in ({"least": 1}, {"most": 10}, {"days": [1]}):
            self.assertTrue(offer != Offer(*RIGHT, **{"least": 2, "most": 9, "days": [1, 2], **named}))
        for other in (offer.fields(), None, 1, "winter"):
            self.assertFalse(offer == other)

    def test_copies(self):
        args, days = as_lists(RIGHT), [1, 2]
        offer = Offer(*args, days=days)
        args[1][0] = args[2][0][1] = args[3][0][1][0] = args[3][0][0][1] = args[4][1] = 0
        args[3].pop()
        days.pop()
        self.assertEqual(offer.fields(), RIGHT + (1, 60, (1, 2)))

    def test_against_the_words_of_the_point(self):
        random = Random(35)
        closed = halves = 0
        for _ in range(400):
            offer = random_offer(random)
            span = random_span(random, 40, 20)
            rates = rates_by_words(offer, span)
            self.assertEqual(self.ask(offer.rates, span), rates)
            self.assertEqual(tuple(offer.rate(night) for night in range(*span)), rates)
            price = price_by_words(offer, span)
            self.assertIs(self.ask(offer.is_open, span), price is not None)
            many = span[1] - span[0]
            free = many // offer.free[0] * offer.free[1] if offer.free else 0
            self.assertEqual(self.ask(offer.free_nights, span), free)
            self.assertEqual(self.ask(offer.rated, span), sum(sorted(rates)[free:]))
            if price is None:
                closed += 1
                self.refuse(Refused, ("closed", span[0]), offer.price, span)
            else:
                self.assertEqual(self.ask(offer.price, span), price)
        self.assertTrue(closed > 50)

    def test_seasons_that_touch(self):
        offer = Offer(*RIGHT)
        self.assertEqual([weekday(night) for night in (9, 13, 14, 15)], [0, 4, 5, 6])
        self.assertEqual([self.ask(offer.rate, night) for night in (9, 10, 13, 14, 15, 19, 20, 29, 30)],
                         [100, 2, 5, 9, 700, 400, 50, 50, 100])
        self.assertEqual(offer.rates((12, 16)), (4, 5, 9, 700))
        self.assertEqual(offer.rates((8, 32)), rates_by_words(offer, (8, 32)))

    def test_open_stays(self):
        offer = Offer("a", WEEK, least=2, most=3, days=[0, 4])
        monday = next(night for night in range(7) if weekday(night) == 0)
        for day in range(7):
            for many in range(1, 6):
                span = (monday + day, monday + day + many)
                self.assertIs(offer.is_open(span), day in (0, 4) and many in (2, 3))
        self.assertIs(Offer("a", WEEK, days=[]).is_open((0, 1)), False)
        self.assertIs(Offer("a", WEEK).is_open((36464, 36524)), True)
        self.assertIs(Offer("a", WEEK).is_open((36463, 36524)), False)

    def test_free_nights(self):
        for free, counts in ((None, [0] * 9), ((3, 1), [0, 0, 1, 1, 1, 2, 2, 2, 3]), ((4, 3), [0, 0, 0, 3, 3, 3, 3, 6, 6])):
            offer = Offer("a", WEEK, free=free)
            self.assertEqual([offer.free_nights((5, 6 + k)) for k in range(9)], counts)
        # The cheapest nights are free, wherever they stand; the percent is taken off behind that.
        offer = Offer("a", WEEK, [(4, 50)], free=(4, 2))
        self.assertEqual((offer.rates((0, 4)), offer.rated((0, 4)), offer.price((0, 4))), ((600, 700, 100, 200), 1300, 650))
        self.assertEqual((offer.rated((0, 3)), offer.price((0, 3))), (1400, 1400))

    def test_halves_upwards(self):
        for rate, percent, price in ((1, 50, 1), (1, 51, 0), (3, 50, 2), (5, 50, 3), (1, 49, 1), (0, 50, 0), (99999, 99, 1000)):
            self.assertEqual(Offer("a", [rate] * 7, [(2, percent)], free=(2, 1)).price((0, 2)), price)

    def test_quotes(self):
        random = Random(350)
        none = ties = 0
        for _ in range(200):
            offers = [random_offer(random, f"o{k}", random.choice((1, 2, 300))) for k in range(random.randrange(6))]
            span = random_span(random, 40, 10)
            priced = [(offer.name, price_by_words(offer, span)) for offer in offers]
            found = tuple(pair for pair in priced if pair[1] is not None)
            self.assertEqual(self.ask(quotes, offers, span), found)
            best = min(found, key=lambda pair: pair[1], default=None)
            self.assertEqual(self.ask(best_offer, offers, span), best)
            none += best is None
            ties += best is not None and [price for _, price in found].count(best[1]) > 1
        self.assertTrue(none > 10 and ties > 10, (none, ties))
        self.assertEqual((self.ask(quotes, [], (0, 1)), self.ask(best_offer, [], (0, 1))), ((), None))

    def test_the_first_of_the_cheapest(self):
        offers = [Offer("dear", [9] * 7), Offer("one", [5] * 7), Offer("two", [5] * 7), Offer("shut", [1] * 7, days=[])]
        self.assertEqual(quotes(offers, (0, 1)), (("dear", 9), ("one", 5), ("two", 5)))
        self.assertEqual((best_offer(offers, (0, 1)), best_offer(offers[::-1], (0, 1))), (("one", 5), ("two", 5)))
        self.assertIsNone(best_offer(offers[3:], (0, 1)))

    def test_the_largest_offer(self):
        seasons = [((60 * k, 60 * k + 60), [k] * 7) for k in range(20)]
        offer = Offer("a" * 12, [99999] * 7, [(49 + k, k) for k in range(12)], seasons, (60, 59), least=60, most=60,
                      days=[6, 5, 4, 3, 2, 1, 0])
        self.assertEqual((offer.price((0, 60)), offer.price((1170, 1230)), offer.price((1200, 1260))), (0, 88999, 88999))


class TestWrongOffers(Case):
    def refuse_from(self, error, fields, place, value):
        """A wrong value at a place is refused, whatever stands at the places behind it."""
        args = RIGHT[:place] + (value,) + (0,) * (4 - place)
        self.refuse(error, fields, Offer, *args, least=0, most=0, days=0)
        self.refuse(error, fields, Offer, *RIGHT[:place], value, *RIGHT[place + 1:])

    def test_names(self):
        for value in NO_NAMES:
            self.refuse_from(BadName, (value,), 0, value)

    def test_weeks(self):
        for value, index in wrong_weeks():
            self.refuse_from(BadItem, (index,), 1, value)

    def test_percents(self):
        for value, index in wrong_percents():
            self.refuse_from(BadItem, (index,), 2, value)
        self.refuse_from(TooMany, (12,), 2, too_many_percents())

    def test_seasons(self):
        for value in NO_SEQUENCES:
            self.refuse_from(BadItem, (None,), 3, value)
        wrong = [(span, WEEK) for span in NO_SPANS] + [((0, 1), week) for week, _ in wrong_weeks()]
        wrong += [None, "ab", (), ((0, 1),), ((0, 1), WEEK, 1), {(0, 1): WEEK}]
        for value in wrong:
            self.refuse_from(BadItem, (1,), 3, [((40, 41), WEEK), value, None])
        many = [((k, k + 1), WEEK) for k in range(21)]
        self.refuse_from(TooMany, (20,), 3, many[::-1])
        self.refuse_from(BadItem, (21,), 3, many + [None])
        self.assertEqual(len(Offer("a", WEEK, (), many[:20]).seasons), 20)
        for spans, index in (([(0, 2), (1, 3)], 1), ([(0, 2), (2, 3), (4, 5), (3, 4), (0, 1)], 3), ([(5, 6), (5, 6)], 1)):
            self.refuse_from(BadItem, (index,), 3, [(span, WEEK) for span in spans])

    def test_free(self):
        for value in NO_SEQUENCES[1:] + ([], (2,), (2, 1, 1), [2], {2: 1, 3: 1}):
            self.refuse_from(BadItem, (0,), 4, value)
        for value in NO_NUMBERS + (1, 61, -1):
            self.refuse_from(BadItem, (0,), 4, (value, 1))
            self.refuse_from(BadItem, (0,), 4, (value, None))
        for value in NO_NUMBERS + (0, 5, -1):
            self.refuse_from(BadItem, (1,), 4, (5, value))
        for value in ((2, 1), [60, 59], (60, 1)):
            self.assertEqual(Offer("a", WEEK, free=value).free, tuple(value))

    def test_numbers_of_nights(self):
        for value in NO_NUMBERS + (0, 61, -1):
            self.refuse(BadNumber, (value,), Offer, *RIGHT, least=value, most=None, days=None)
        for value in NO_NUMBERS + (0, 61, 6):
            self.refuse(BadNumber, (value,), Offer, *RIGHT, least=7, most=value, days=None)
            self.refuse(BadNumber, (value,), Offer, *RIGHT, days=None, most=value, least=7)
        for least, most in ((1, 1), (60, 60), (7, 7)):
            self.assertEqual(Offer(*RIGHT, least=least, most=most).fields()[5:7], (least, most))

    def test_days(self):
        for value in NO_SEQUENCES:
            self.refuse(BadItem, (None,), Offer, *RIGHT, days=value)
        for value in NO_NUMBERS + (-1, 7):
            self.refuse(BadItem, (1,), Offer, *RIGHT, days=[6, value, None])
            self.refuse(BadItem, (8,), Offer, *RIGHT, days=[0] * 8 + [value])
        self.refuse(TooMany, (7,), Offer, *RIGHT, days=[0] * 8)
        self.assertEqual(Offer(*RIGHT, days=[6] * 7).days, (6,))

    def test_what_is_passed_by_name(self):
        with self.assertRaises(TypeError):
            Offer(*RIGHT, 1)
