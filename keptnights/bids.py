"""Bids: what a request must pay to be taken, and which requests are sure or possible."""

from keptnights.income import pays_as_costs, spans_asked
from keptnights.loads import sums_before
from keptnights.papers import is_led_on, network_within
from keptnights.spans import turning_nights


def narrow_nights_of(rooms, turns):
    """The pairs (night, part) of the nights with the fewest rooms of each part between two turns."""
    found = []
    for part in range(len(turns) - 1):
        counts = rooms[turns[part]:turns[part + 1]]
        fewest = min(counts)
        found.extend([(turns[part] + k, part) for k, many in enumerate(counts) if many == fewest])
    return found


class Market:
    """Requests that pay most, as flow from turn to turn that has settled.

    Another room, or a room less, can only change something at narrow nights, those with the
    fewest rooms between two turns. What it changes is the cost of the cheapest way on which one
    request more can be led past these nights, or one back.
    """

    def __init__(self, rooms, requests):
        spans = spans_asked(requests)
        turns = turning_nights(spans + [(0, len(rooms))])
        self.narrow = narrow_nights_of(rooms, turns)
        fewest = {part: rooms[night] for night, part in self.narrow}
        bounds = [(0, fewest[part]) for part in range(len(turns) - 1)]
        self.network = network_within(bounds, spans, pays_as_costs(requests), turns)
        self.network.settle()
        self.requests = requests
        self.pay = sum([pay for index, (_, pay) in enumerate(requests) if self.takes(index)])
        narrow = {night: True for night, _ in self.narrow}
        self.before = sums_before([1 if night in narrow else 0 for night in range(len(rooms))])
        self.known = {}

    def takes(self, index):
        """Whether a request is taken."""
        return is_led_on(self.network, index)

    def change(self, start, end):
        """What one more costs on the cheapest way from a turn to another one, None if there is no way."""
        if start not in self.known:
            self.known[start] = self.network.costs_from(start)
        return self.known[start].get(end, None)

    def bid(self, span):
        """What the pay falls by with one room less at the nights of a span, None where there is none."""
        begin = self.before[span[0]]
        end = self.before[span[1]]
        return 0 if begin == end else self.change(self.narrow[end - 1][1] + 1, self.narrow[begin][1])

    def worth(self, part):
        """What the pay rises by if the nights of a part have one room more."""
        change = self.change(part, part + 1)
        return 0 if change is None else max(0, -change)

    def without(self, index):
        """The greatest pay of the other requests."""
        span, pay = self.requests[index]
        if not self.takes(index):
            return self.pay
        begin = self.narrow[self.before[span[0]]][1]
        end = self.narrow[self.before[span[1]] - 1][1] + 1
        # The nights that the request leaves can be led over again.
        return self.pay - pay - self.change(begin, end)

    def including(self, index):
        """The greatest pay of the requests with this one, None if it finds no room alone."""
        span, pay = self.requests[index]
        if self.takes(index):
            return self.pay
        price = self.bid(span)
        return None if price is None else self.pay + pay - price


def bid(rooms, requests, span):
    """The greatest pay less that with one room less at the nights of a span, None where there is none."""
    return Market(rooms, requests).bid(span)


def pay_without(rooms, requests, index):
    """The greatest pay of the other requests."""
    return Market(rooms, requests).without(index)


def pay_with(rooms, requests, index):
    """The greatest pay of the choices that have a request, None if it finds no room alone."""
    return Market(rooms, requests).including(index)


def sure_requests(rooms, requests):
    """The indexes of the requests that are in every choice that pays most."""
    market = Market(rooms, requests)
    return tuple([index for index in range(len(requests)) if market.without(index) < market.pay])


def possible_requests(rooms, requests):
    """The indexes of the requests that are in some choice that pays most."""
    market = Market(rooms, requests)
    return tuple([index for index in range(len(requests)) if market.including(index) == market.pay])


def room_worths(rooms, requests):
    """By nights, how much more the requests pay with one room more at the night."""
    market = Market(rooms, requests)
    nights = {}
    for night, part in market.narrow:
        nights.setdefault(part, []).append(night)
    worths = [0] * len(rooms)
    for part in nights:
        # Of several narrow nights of a part, one alone does not let one more pass.
        if len(nights[part]) == 1:
            worths[nights[part][0]] = market.worth(part)
    return tuple(worths)


def room_losses(rooms, requests):
    """By nights, how much less the requests pay with one room less at the night, None where there is none."""
    market = Market(rooms, requests)
    return tuple([market.bid((night, night + 1)) for night in range(len(rooms))])


def taken_for(rooms, requests, span, pay):
    """Whether another request for a span with this pay is in every choice that pays most."""
    price = bid(rooms, requests, span)
    return price is not None and pay > price


def cheapest_span(rooms, requests, length):
    """The least bid of the spans of a length, with the first night of the first such span, or None."""
    market = Market(rooms, requests)
    best = None
    for first in range(len(rooms) - length + 1):
        price = market.bid((first, first + length))
        if price is not None and (best is None or price < best[0]):
            best = (price, first)
    return best
