"""The best sure taking: whole groups and requests that surely pay most together."""

from keptnights.checks import as_tuples
from keptnights.errors import TooMany
from keptnights.income import best_requests
from keptnights.sureincome import sure_pay, sure_request

MOST_GROUPS = 6


class Taking:
    """Whole groups and requests that find room together, what they surely pay, and prices of nights."""

    def __init__(self, groups, requests, pay, prices):
        self.groups = as_tuples(groups)
        self.requests = as_tuples(requests)
        self.pay = pay
        self.prices = as_tuples(prices)


def worst_row(group, size):
    """By nights, the worst counts of a group."""
    return [group.worst(night) for night in range(size)]


def rooms_less(rooms, counts):
    """By nights, the rooms less the counts, None if one is less than 0."""
    left = [many - count for many, count in zip(rooms, counts)]
    return None if any([many < 0 for many in left]) else left


def sets_of(many):
    """The sets of the numbers below many as ascending tuples, the shorter ones first."""
    found = [()]
    for number in range(many):
        found = found + [some + (number,) for some in found]
    return [some for _, some in sorted([(len(some), some) for some in found])]


def rooms_beside(rooms, rows, some):
    """By nights, the rooms that the rows of a set of numbers leave, None if one is less than 0."""
    left = rooms
    for number in some:
        if left is not None:
            left = rooms_less(left, rows[number])
    return left


def best_taking(rooms, groups, offers, requests):
    """The whole groups and the requests that surely pay most."""
    if len(groups) > MOST_GROUPS:
        raise TooMany(MOST_GROUPS)
    pays = [sure_pay(group, own) for group, own in zip(groups, offers)]
    rows = [worst_row(group, len(rooms)) for group in groups]
    sure = [(span, sure_request(pay, fee)) for span, pay, fee in requests]
    best = None
    for some in sets_of(len(groups)):
        left = rooms_beside(rooms, rows, some)
        if left is not None:
            found = best_requests(left, sure)
            pay = found.pay + sum([pays[number] for number in some])
            # The sets come in the order in which equal ones are preferred.
            if best is None or pay > best.pay:
                best = Taking(some, found.taken, pay, found.prices)
    return best


def group_bid(rooms, groups, offers, requests, group):
    """What the greatest sure pay falls by with another group, None where it has no room."""
    most = best_taking(rooms, groups, offers, requests).pay
    left = rooms_less(rooms, worst_row(group, len(rooms)))
    return None if left is None else most - best_taking(left, groups, offers, requests).pay


def taken_in_all(rooms, groups, offers, requests, number):
    """Whether the greatest sure pay is less without a group."""
    most = best_taking(rooms, groups, offers, requests).pay
    others = [group for k, group in enumerate(groups) if k != number]
    others_offers = [own for k, own in enumerate(offers) if k != number]
    return best_taking(rooms, others, others_offers, requests).pay < most
