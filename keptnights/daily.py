"""Days: what folios bring on each day; together it is the total of their bills."""

from keptnights.bills import charge_lines, needed_offer, penalty_lines, span_stayed, stay_lines, stay_of, sum_of
from keptnights.events import last_told, minute_of, standing_events
from keptnights.policies import day_of_minute
from keptnights.spans import nights_of
from keptnights.splits import split_cents


def gathered(pairs):
    """Pairs (day, cents) with each day once, ascending, without zeros."""
    sums = {}
    for day, cents in pairs:
        sums[day] = sums.get(day, 0) + cents
    return tuple([(day, sums[day]) for day in sorted(list(sums)) if sums[day] != 0])


def night_pairs(rules, folio):
    """For each night of the guest its part of the price and its tax."""
    span = span_stayed(folio)
    if span is None:
        return []
    rates = needed_offer(rules, stay_of(folio)[1]).rates(span)
    parts = split_cents(sum_of(stay_lines(rules, folio)), rates)
    tax = rules.taxes.for_nights(1)
    return [(night, part + tax) for night, part in zip(nights_of(span), parts)]


def charge_pairs(folio):
    """For each charge the day on which it was told, and its cents."""
    return [(day_of_minute(minute_of(event)), event[3]) for event in standing_events(folio.events, "charge")]


def penalty_pairs(rules, folio):
    """The penalty, on the day on which the last state was told."""
    state = last_told(folio.events, "state")
    return [(day_of_minute(minute_of(state)), cents) for _, cents in penalty_lines(rules, folio)]


def percent_pairs(rules, folio, days):
    """The percent, on the last one of these days."""
    if len(days) == 0:
        return []
    return [(max(days), rules.taxes.on(sum_of(stay_lines(rules, folio) + charge_lines(folio))))]


def daily(rules, folio):
    """The pairs (day, cents) of what a folio brings, ascending, without zeros."""
    pairs = night_pairs(rules, folio) + charge_pairs(folio)
    taxes = percent_pairs(rules, folio, [day for day, _ in pairs])
    return gathered(pairs + taxes + penalty_pairs(rules, folio))


def daily_of(rules, folios):
    """The pairs (day, cents) of several folios together."""
    pairs = []
    for folio in folios:
        pairs.extend(daily(rules, folio))
    return gathered(pairs)


def on_day(pairs, day):
    """The cents of a day, 0 if it is not there."""
    return sum([cents for one, cents in pairs if one == day])


def up_to(pairs, day):
    """The sum of the cents up to a day."""
    return sum([cents for one, cents in pairs if one <= day])
