"""Ways: a span filled with several stays one after the other, by the cheapest offers."""

from keptnights.checks import LAST_NIGHT
from keptnights.dates import weekday
from keptnights.offers import best_offer, cents_for


def rates_within(offers, span):
    """For each offer the rates of the nights of a span."""
    return [offer.rates(span) for offer in offers]


def quotes_from(offers, rates, span, first):
    """The pairs (name, price) of the best offers for stays from a night on, by departures within a span."""
    best = {}
    day = weekday(first)
    for offer, row in zip(offers, rates):
        if day in offer.days:
            for leave in range(first + offer.least, min(first + offer.most, span[1]) + 1):
                cents = cents_for(offer, row[first - span[0]:leave - span[0]])
                # Of offers with the same price the first one stays.
                if leave not in best or cents < best[leave][1]:
                    best[leave] = (offer.name, cents)
    return best


def best_stays(offers, span):
    """For the nights from which a span can be filled: cents, number of stays, and first stay of the best way."""
    rates = rates_within(offers, span)
    best = {span[1]: (0, 0, span[1], None)}
    for first in reversed(range(span[0], span[1])):
        quotes = quotes_from(offers, rates, span, first)
        found = []
        for leave in quotes:
            if leave in best:
                name, cents = quotes[leave]
                found.append((cents + best[leave][0], best[leave][1] + 1, leave, name))
        if len(found) > 0:
            best[first] = min(found)
    return best


def cheapest_way(offers, span):
    """The cents and the way of the cheapest way to fill a span, None if it cannot be filled."""
    best = best_stays(offers, span)
    if span[0] not in best:
        return None
    way = []
    first = span[0]
    while first < span[1]:
        leave = best[first][2]
        way.append((best[first][3], (first, leave)))
        first = leave
    return (best[span[0]][0], tuple(way))


def offer_named(offers, name):
    """The first offer of a name, or None."""
    for offer in offers:
        if offer.name == name:
            return offer
    return None


def way_cents(offers, way):
    """What a way costs, None if an offer is not there or not open."""
    total = 0
    for name, span in way:
        offer = offer_named(offers, name)
        if offer is None or not offer.is_open(span):
            return None
        total = total + offer.price(span)
    return total


def fills(way, span):
    """Whether the stays of a way fill a span one after the other."""
    begun = span[0]
    for _, (first, leave) in way:
        if first != begun:
            return False
        begun = leave
    return begun == span[1]


def is_way(offers, span, way):
    """Whether a way fills a span by offers that are open."""
    return fills(way, span) and way_cents(offers, way) is not None


def saved_cents(offers, span):
    """What the cheapest way saves against the best offer for the whole span, None without one."""
    quote = best_offer(offers, span)
    return None if quote is None else quote[1] - cheapest_way(offers, span)[0]


def least_cents(offers, span):
    """The least cents of filling a span from its first night on, by the departures up to which that can be done."""
    rates = rates_within(offers, span)
    least = {span[0]: 0}
    for first in range(span[0], span[1]):
        # All stays that end here begin earlier, so what it costs to get here is known.
        if first in least:
            quotes = quotes_from(offers, rates, span, first)
            for leave in quotes:
                cents = least[first] + quotes[leave][1]
                least[leave] = min(cents, least.get(leave, cents))
    return least


def first_saving(offers, first, most):
    """The shortest span from a night on, of at most so many nights, for which several stays save cents, or None."""
    span = (first, min(first + most, LAST_NIGHT + 1))
    least = least_cents(offers, span)
    quotes = quotes_from(offers, rates_within(offers, span), span, first)
    saving = [leave for leave in quotes if quotes[leave][1] > least[leave]]
    return (first, min(saving)) if len(saving) > 0 else None
