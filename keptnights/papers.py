"""Choices of whole stays within bounds, papers that show them least, and cuts that bar them."""

from keptnights.checks import are_ascending, are_between, are_different_below, as_tuples, is_row, is_sequence
from keptnights.checks import is_whole
from keptnights.loads import sums_before
from keptnights.networks import Network, covers_of
from keptnights.spans import turning_nights


class Choice:
    """A least choice with its cost and a paper, or a cut; the other fields are None."""

    def __init__(self, chosen, cost, ups, downs, plus, minus):
        self.chosen = as_tuples(chosen)
        self.cost = cost
        self.ups = as_tuples(ups)
        self.downs = as_tuples(downs)
        self.plus = as_tuples(plus)
        self.minus = as_tuples(minus)


def flags_of(size, chosen):
    """For each index below size 1 if it is chosen, otherwise 0."""
    picked = {index: True for index in chosen}
    return tuple([1 if index in picked else 0 for index in range(size)])


def strictest_nights(lows, highs, turns):
    """Between each two turns the first night with the greatest lower, and the least upper bound."""
    found = []
    for k in range(len(turns) - 1):
        low_part = lows[turns[k]:turns[k + 1]]
        high_part = highs[turns[k]:turns[k + 1]]
        low_night = turns[k] + low_part.index(max(low_part))
        found.append((low_night, turns[k] + high_part.index(min(high_part))))
    return found


def network_of(spans, costs, flags, turns):
    """A node for each turn, and an arc for each span, with flow if it has the flag 1."""
    places = {night: place for place, night in enumerate(turns)}
    network = Network(len(turns))
    for span, cost, flag in zip(spans, costs, flags):
        tail = places[span[0]]
        head = places[span[1]]
        network.add_arcs(tail, head, cost, 1 - flag, flag)
        network.flow_in(tail, head, flag)
    return network


def add_ways_back(network, bounds, covers):
    """Arcs along which what the spans of a part have led on comes back, within its bounds."""
    for k, (low, high) in enumerate(bounds):
        back = max(low, min(high, covers[k]))
        network.add_arcs(k + 1, k, 0, high - back, back - low)
        network.flow_in(k + 1, k, back)


def network_within(bounds, spans, costs, turns):
    """The network of spans and of ways back within the bounds of the parts between turns."""
    # Without any prices of nights, just the spans that cost less than nothing are worth it.
    flags = [1 if cost < 0 else 0 for cost in costs]
    network = network_of(spans, costs, flags, turns)
    covers = covers_of(turns[-1], spans, flags)
    add_ways_back(network, bounds, [covers[night] for night in turns[:-1]])
    return network


def is_led_on(network, index):
    """Whether a network leads flow along the arc of the span with this index."""
    return network.spare[2 * index] == 0


def paper_of(network, spans, costs, strictest, size):
    """The Choice of a network that has settled, with a paper by nights below size."""
    chosen = [index for index in range(len(spans)) if is_led_on(network, index)]
    ups = [0] * size
    downs = [0] * size
    for k, (low_night, high_night) in enumerate(strictest):
        rise = network.prices[k + 1] - network.prices[k]
        ups[low_night] = max(0, rise)
        downs[high_night] = max(0, -rise)
    return Choice(chosen, sum([costs[index] for index in chosen]), ups, downs, None, None)


def cut_of(reached, strictest):
    """The Choice with the cut that the nodes show from which an excess cannot get away."""
    plus = []
    minus = []
    for k, (low_night, high_night) in enumerate(strictest):
        if k in reached and k + 1 not in reached:
            plus.append(low_night)
        if k not in reached and k + 1 in reached:
            minus.append(high_night)
    return Choice(None, None, None, None, plus, minus)


def least_choice(lows, highs, spans, costs):
    """The least choice within the bounds with a paper, or a cut."""
    size = len(lows)
    # All nights between two turns have the same cover.
    turns = turning_nights(list(spans) + [(0, size)])
    strictest = strictest_nights(lows, highs, turns)
    bounds = [(lows[pair[0]], highs[pair[1]]) for pair in strictest]
    for k, (low, high) in enumerate(bounds):
        if low > high:
            return Choice(None, None, None, None, [strictest[k][0]], [strictest[k][1]])
    network = network_within(bounds, spans, costs, turns)
    reached = network.settle()
    if reached is None:
        return paper_of(network, spans, costs, strictest, size)
    return cut_of(reached, strictest)


def price_of(span, ups, downs):
    """The ups less the downs of the nights of a span."""
    return sum(ups[span[0]:span[1]]) - sum(downs[span[0]:span[1]])


def rests_of_costs(spans, costs, ups, downs):
    """For each span the cost less the ups and plus the downs of its nights."""
    sums = sums_before([up - down for up, down in zip(ups, downs)])
    return [cost - sums[span[1]] + sums[span[0]] for span, cost in zip(spans, costs)]


def is_choice(lows, highs, spans, chosen):
    """Whether any value is a choice within the bounds."""
    if not is_sequence(chosen) or not are_between(chosen, len(chosen), 0, len(spans) - 1):
        return False
    if not are_ascending(chosen):
        return False
    covers = covers_of(len(lows), spans, flags_of(len(spans), chosen))
    return all([low <= cover <= high for low, cover, high in zip(lows, covers, highs)])


def are_prices(value, size):
    """Whether a value is a row of so many whole numbers of at least 0."""
    return is_row(value, size) and all([is_whole(price) and price >= 0 for price in value])


def are_on_bounds(bounds, prices, covers):
    """Whether prices are above 0 only at nights whose cover is the bound."""
    return all([price == 0 or cover == bound for bound, price, cover in zip(bounds, prices, covers)])


def is_paper(lows, highs, spans, costs, chosen, ups, downs):
    """Whether any values are a choice within the bounds and a paper for it."""
    if not is_choice(lows, highs, spans, chosen):
        return False
    if not are_prices(ups, len(lows)) or not are_prices(downs, len(lows)):
        return False
    flags = flags_of(len(spans), chosen)
    covers = covers_of(len(lows), spans, flags)
    if not are_on_bounds(lows, ups, covers) or not are_on_bounds(highs, downs, covers):
        return False
    rests = rests_of_costs(spans, costs, ups, downs)
    return all([rest <= 0 if flag == 1 else rest >= 0 for rest, flag in zip(rests, flags)])


def paper_value(lows, highs, spans, costs, ups, downs):
    """What any choice within the bounds costs at least, by prices of nights."""
    lower = sum([up * low for up, low in zip(ups, lows)])
    upper = sum([down * high for down, high in zip(downs, highs)])
    return lower - upper + sum([min(0, rest) for rest in rests_of_costs(spans, costs, ups, downs)])


def is_cut(lows, highs, spans, plus, minus):
    """Whether any values are a cut."""
    size = len(lows)
    if not are_different_below(plus, size) or not are_different_below(minus, size):
        return False
    needed = sum([lows[night] for night in plus]) - sum([highs[night] for night in minus])
    # Each span gives at most its nights in plus less its nights in minus.
    given = rests_of_costs(spans, [0] * len(spans), flags_of(size, minus), flags_of(size, plus))
    return needed > sum([max(0, many) for many in given])
