"""Offers: rates by weekdays and seasons, percents and free nights for longer stays."""

from keptnights.checks import is_between, is_row, is_span, want_apart, want_name, want_number, want_right
from keptnights.checks import want_sequence
from keptnights.dates import weekday
from keptnights.errors import BadItem, Refused
from keptnights.spans import meeting, span_length
from keptnights.tariffs import copied_percents, copied_week, is_week, percent_off
from keptnights.taxes import half_up

MOST_SEASONS = 20
MOST_DAYS = 7
MOST_NIGHTS = 60


def is_season(value):
    """Whether a value is a pair (span, week)."""
    return is_row(value, 2) and is_span(value[0]) and is_week(value[1])


def copied_seasons(value):
    """The pairs (span, week) of a sequence, ascending and apart, as tuples."""
    want_sequence(value)
    want_right([is_season(item) for item in value], MOST_SEASONS)
    want_apart([span for span, _ in value])
    return tuple([(tuple(span), tuple(week)) for span, week in value])


def copied_free(value):
    """None, or a pair (every, free) as a tuple."""
    if value is None:
        return None
    if not is_row(value, 2) or not is_between(value[0], 2, MOST_NIGHTS):
        raise BadItem(0)
    if not is_between(value[1], 1, value[0] - 1):
        raise BadItem(1)
    return tuple(value)


def copied_days(value):
    """The weekdays of a sequence, ascending, each once."""
    want_sequence(value)
    want_right([is_between(item, 0, 6) for item in value], MOST_DAYS)
    return tuple(sorted(list({day: True for day in value})))


class Offer:
    """What a stay costs, and which stays can be had for that."""

    def __init__(self, name, week, percents=(), seasons=(), free=None, *, least=1, most=60, days=(0, 1, 2, 3, 4, 5, 6)):
        want_name(name)
        self.name = name
        self.week = copied_week(week)
        self.percents = copied_percents(percents)
        self.seasons = copied_seasons(seasons)
        self.free = copied_free(free)
        want_number(least, 1, MOST_NIGHTS)
        want_number(most, least, MOST_NIGHTS)
        self.least = least
        self.most = most
        self.days = copied_days(days)

    def __eq__(self, other):
        return isinstance(other, Offer) and self.fields() == other.fields()

    def fields(self):
        """The fields in the order of the parameters."""
        prices = (self.week, self.percents, self.seasons, self.free)
        return (self.name,) + prices + (self.least, self.most, self.days)

    def rate(self, night):
        """The rate of a night."""
        return self.rates((night, night + 1))[0]

    def rates(self, span):
        """The rates of the nights of a span."""
        first = span[0]
        day = weekday(first)
        row = [self.week[(day + k) % 7] for k in range(span_length(span))]
        for season, week in self.seasons:
            common = meeting(season, span)
            if common is not None:
                for k in range(common[0] - first, common[1] - first):
                    row[k] = week[(day + k) % 7]
        return tuple(row)

    def is_open(self, span):
        """Whether a stay for a span can be had."""
        return self.least <= span_length(span) <= self.most and weekday(span[0]) in self.days

    def free_nights(self, span):
        """How many nights of a span are free."""
        return free_among(self.free, span_length(span))

    def rated(self, span):
        """The sum of the rates of a span without its cheapest nights, as many as are free."""
        return paid_rates(self.free, self.rates(span))

    def price(self, span):
        """The cents of a stay."""
        if not self.is_open(span):
            raise Refused("closed", span[0])
        return cents_for(self, self.rates(span))


def free_among(free, many):
    """How many of so many nights are free by a pair (every, free) or None."""
    return 0 if free is None else many // free[0] * free[1]


def paid_rates(free, rates):
    """The sum of the rates of a stay without the cheapest ones, as many as are free."""
    many = free_among(free, len(rates))
    return sum(rates) if many == 0 else sum(sorted(rates)[many:])


def cents_for(offer, rates):
    """The cents of a stay with these rates, whether an offer is open for it or not."""
    left = 100 - percent_off(offer.percents, len(rates))
    return half_up(paid_rates(offer.free, rates) * left, 100)


def quotes(offers, span):
    """The pairs (name, price) of the offers that are open for a span, in their order."""
    return tuple([(offer.name, offer.price(span)) for offer in offers if offer.is_open(span)])


def best_offer(offers, span):
    """The first pair (name, price) with the least price, None if no offer is open."""
    best = None
    for quote in quotes(offers, span):
        if best is None or quote[1] < best[1]:
            best = quote
    return best
