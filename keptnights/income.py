"""Income: the requests that find room together and pay most, and prices of nights that show it."""

from keptnights.checks import as_tuples
from keptnights.moving import moved_covers
from keptnights.papers import is_choice, is_paper, least_choice, paper_value


class Income:
    """Requests that find room together and pay most, what they pay, and prices that show it."""

    def __init__(self, taken, pay, prices):
        self.taken = as_tuples(taken)
        self.pay = pay
        self.prices = as_tuples(prices)


def spans_asked(requests):
    """The spans of the requests."""
    return [span for span, _ in requests]


def pays_as_costs(requests):
    """What is paid as costs below 0."""
    return [-pay for _, pay in requests]


def nothing_by(nights):
    """A row of 0 for each night."""
    return [0] * len(nights)


def best_requests(rooms, requests):
    """The requests that find room together and pay most, with prices that show it."""
    found = least_choice(nothing_by(rooms), rooms, spans_asked(requests), pays_as_costs(requests))
    # No night needs a guest, so the paper stays one without its ups.
    return Income(found.chosen, -found.cost, found.downs)


def greatest_pay(rooms, requests):
    """The most that requests that find room together pay."""
    return best_requests(rooms, requests).pay


def pay_for(requests, taken):
    """What the taken requests pay."""
    return sum([requests[index][1] for index in taken])


def find_room(rooms, requests, taken):
    """Whether any value is a choice of requests that find room together."""
    return is_choice(nothing_by(rooms), rooms, spans_asked(requests), taken)


def is_price_paper(rooms, requests, taken, prices):
    """Whether any values are requests that find room together, and prices that show that they pay most."""
    nothing = nothing_by(rooms)
    return is_paper(nothing, rooms, spans_asked(requests), pays_as_costs(requests), taken, nothing, prices)


def price_bound(rooms, requests, prices):
    """What requests that find room together pay at most, by any prices of nights."""
    nothing = nothing_by(rooms)
    return -paper_value(nothing, rooms, spans_asked(requests), pays_as_costs(requests), nothing, prices)


def span_price(prices, span):
    """The sum of the prices of the nights of a span."""
    return sum(prices[span[0]:span[1]])


def left_rooms(rooms, requests, taken):
    """By nights, the rooms that the taken requests leave."""
    covers = moved_covers(len(rooms), requests, taken)
    return tuple([many - cover for many, cover in zip(rooms, covers)])


def greedy_requests(rooms, requests):
    """The requests that are taken if those with the higher pay are looked at first."""
    left = list(rooms)
    taken = []
    for _, index in sorted([(-request[1], index) for index, request in enumerate(requests)]):
        first, leave = requests[index][0]
        if min(left[first:leave]) > 0:
            taken.append(index)
            for night in range(first, leave):
                left[night] -= 1
    return tuple(sorted(taken))
