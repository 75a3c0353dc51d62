"""Bills: what the events of a folio come to, whatever the order in which they were told."""

from keptnights.checks import as_tuples
from keptnights.errors import Unknown
from keptnights.events import last_told, minute_of, standing_events
from keptnights.offers import cents_for
from keptnights.spans import span_length
from keptnights.splits import split_cents
from keptnights.taxes import rounded
from keptnights.ways import offer_named


class Rules:
    """The offers, the policy and the taxes by which bills are made."""

    def __init__(self, offers, policy, taxes):
        self.offers = tuple(offers)
        self.policy = policy
        self.taxes = taxes


class Bill:
    """The lines of a bill with their total, what was paid, what is due, and who owes which part."""

    def __init__(self, lines, paid, shares):
        self.lines = as_tuples(lines)
        self.total = sum_of(self.lines)
        self.paid = paid
        self.due = self.total - paid
        self.shares = as_tuples(shares)

    def __eq__(self, other):
        return isinstance(other, Bill) and self.fields() == other.fields()

    def fields(self):
        """The lines, the total, what was paid, what is due, and the shares."""
        return (self.lines, self.total, self.paid, self.due, self.shares)


def sum_of(pairs):
    """The sum of the cents of pairs."""
    return sum([cents for _, cents in pairs])


def state_of(folio):
    """The last state that was told, booked without one."""
    told = last_told(folio.events, "state")
    return "booked" if told is None else told[2]


def stay_of(folio):
    """The span and the name of the offer of the last stay that was told, or None."""
    told = last_told(folio.events, "stay")
    return None if told is None else (told[2], told[3])


def span_stayed(folio):
    """The span that the guest stayed or stays, None for a guest who is not here."""
    stay = stay_of(folio)
    if stay is None or state_of(folio) != "here":
        return None
    first, leave = stay[0]
    left = last_told(folio.events, "left")
    return (first, left[2]) if left is not None and first < left[2] < leave else (first, leave)


def needed_offer(rules, name):
    """The first offer of a name, Unknown if there is none."""
    offer = offer_named(rules.offers, name)
    if offer is None:
        raise Unknown(name)
    return offer


def price_of_nights(offer, span):
    """The cents for the nights of a span, whether the offer is open for it or not."""
    return cents_for(offer, offer.rates(span))


def stay_lines(rules, folio):
    """The lines of the nights and of what was granted of their price."""
    span = span_stayed(folio)
    if span is None:
        return []
    cents = price_of_nights(needed_offer(rules, stay_of(folio)[1]), span)
    grant = last_told(folio.events, "grant")
    granted = 0 if grant is None else rounded(-cents * grant[2], 100)
    return [("nights", cents)] + without_zeros([("granted", granted)])


def without_zeros(pairs):
    """The pairs whose cents are not 0."""
    return [pair for pair in pairs if pair[1] != 0]


def charge_lines(folio):
    """The lines of the charges that are not voided."""
    return [(name, cents) for _, _, name, cents in standing_events(folio.events, "charge")]


def nights_of_penalty(policy, folio, first):
    """How many nights a policy charges for a stay from a night on that was cancelled, or whose guest never came."""
    if state_of(folio) == "absent":
        return policy.absent
    return policy.nights_charged(minute_of(last_told(folio.events, "state")), first)


def penalty_lines(rules, folio):
    """The line of what a stay costs that was cancelled, or whose guest never came."""
    stay = stay_of(folio)
    if stay is None or state_of(folio) not in ("cancelled", "absent"):
        return []
    span, name = stay
    rates = needed_offer(rules, name).rates(span)
    nights = nights_of_penalty(rules.policy, folio, span[0])
    return without_zeros([("penalty", rules.policy.penalty(rates, nights))])


def tax_lines(rules, folio):
    """The lines of the cents for the nights, and of the percent."""
    span = span_stayed(folio)
    nights = 0 if span is None else span_length(span)
    taxed = sum_of(stay_lines(rules, folio)) + sum_of(charge_lines(folio))
    return without_zeros([("nighttax", rules.taxes.for_nights(nights)), ("tax", rules.taxes.on(taxed))])


def shares_of(folio):
    """The pairs (payer, weight) of the last shares that were told; the guest pays all without them."""
    told = last_told(folio.events, "shares")
    return (("guest", 1),) if told is None else told[2]


def paid_sum(folio):
    """The sum of the payments that are not voided."""
    return sum_of(paid_by(folio))


def paid_by(folio):
    """The pairs (payer, cents) of the payments that are not voided, each payer once, by names."""
    sums = {}
    for _, _, payer, cents in standing_events(folio.events, "paid"):
        sums[payer] = sums.get(payer, 0) + cents
    return tuple([(payer, sums[payer]) for payer in sorted(list(sums))])


def bill(rules, folio):
    """The bill of a folio."""
    lines = stay_lines(rules, folio) + charge_lines(folio) + penalty_lines(rules, folio) + tax_lines(rules, folio)
    shares = shares_of(folio)
    parts = split_cents(sum_of(lines), [weight for _, weight in shares])
    return Bill(lines, paid_sum(folio), [(payer, part) for (payer, _), part in zip(shares, parts)])


def owed_by(rules, folio):
    """The pairs (payer, part less own payments) of the shares."""
    paid = {payer: cents for payer, cents in paid_by(folio)}
    return tuple([(payer, part - paid.get(payer, 0)) for payer, part in bill(rules, folio).shares])
