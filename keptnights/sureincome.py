"""Sure income: what a group pays at least, whoever of it comes."""

from keptnights.checks import is_between, is_row, want_right, want_sequence
from keptnights.errors import BadItem

MOST_PAY = 99999


def is_offer(value):
    """Whether a value is a pair (pay, fee): what a guest pays who comes, and who does not."""
    return is_row(value, 2) and is_between(value[0], 0, MOST_PAY) and is_between(value[1], 0, value[0])


def want_offers(group, offers):
    """Raise BadItem unless there is a pair (pay, fee) for each span of a group."""
    want_sequence(offers)
    # The items are looked at before their number is.
    want_right([is_offer(offer) for offer in offers], len(offers))
    if len(offers) != len(group):
        raise BadItem(None)


def gains_of(offers):
    """How much more each guest pays by coming."""
    return tuple([pay - fee for pay, fee in offers])


def fees_of(offers):
    """What is paid if nobody comes."""
    return sum([fee for _, fee in offers])


def by_gains(offers):
    """The indexes of the guests by what they pay more by coming, equal ones by indexes."""
    return [index for _, index in sorted([(gain, index) for index, gain in enumerate(gains_of(offers))])]


def poorest_comers(group, offers):
    """The least guests with the smallest gains, ascending."""
    want_offers(group, offers)
    return tuple(sorted(by_gains(offers)[:group.least]))


def richest_comers(group, offers):
    """The most guests with the greatest gains, ascending."""
    want_offers(group, offers)
    order = sorted([(-gain, index) for index, gain in enumerate(gains_of(offers))])
    return tuple(sorted([index for _, index in order[:group.most]]))


def pay_if(offers, comers):
    """What is paid if just these guests come."""
    gains = gains_of(offers)
    return fees_of(offers) + sum([gains[index] for index in comers])


def sure_pay(group, offers):
    """The least that a group pays in any course."""
    return pay_if(offers, poorest_comers(group, offers))


def greatest_group_pay(group, offers):
    """The most that a group pays in any course."""
    return pay_if(offers, richest_comers(group, offers))


def pay_spread(group, offers):
    """How much more than the least the most is that a group pays."""
    return greatest_group_pay(group, offers) - sure_pay(group, offers)


def sure_request(pay, fee):
    """What a request pays at least, whether its guest comes or not."""
    return min(pay, fee)


def all_sure(groups, offers):
    """The least that groups pay together, by the offers of each."""
    return sum([sure_pay(group, own) for group, own in zip(groups, offers)])


def least_for(group, offers, wanted):
    """The least number of guests who must come so that a group surely pays what is wanted, or None."""
    want_offers(group, offers)
    order = by_gains(offers)
    for many in range(group.most + 1):
        if pay_if(offers, order[:many]) >= wanted:
            return many
    return None
