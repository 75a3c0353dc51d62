"""Trials of all small cases, by the words of the points, for several tests."""

from itertools import combinations, combinations_with_replacement, product

from keptnights.channels import Channel
from keptnights.groups import Group
from keptnights.plans import Plan
from tests.support import random_span


def cover(spans, chosen, night):
    return sum(spans[k][0] <= night < spans[k][1] for k in chosen)


def loads(spans, nights):
    """By nights, how many of some spans have the night."""
    return [sum(first <= night < leave for first, leave in spans) for night in nights]


def within(lows, highs, spans, chosen):
    return all(lows[night] <= cover(spans, chosen, night) <= highs[night] for night in range(len(lows)))


def subsets(many):
    """All ascending tuples of numbers below many, the shorter ones first."""
    return [some for size in range(many + 1) for some in combinations(range(many), size)]


def all_choices(lows, highs, spans):
    """All choices within the bounds (point 17)."""
    return [some for some in subsets(len(spans)) if within(lows, highs, spans, some)]


def shows_least(lows, highs, spans, costs, chosen, ups, downs):
    """Whether rows of prices are a paper, by the words of point 17."""
    for night in range(len(lows)):
        many = cover(spans, chosen, night)
        if min(ups[night], downs[night]) < 0 or ups[night] and many != lows[night] or downs[night] and many != highs[night]:
            return False
    for k, (first, leave) in enumerate(spans):
        rest = costs[k] - sum(ups[first:leave]) + sum(downs[first:leave])
        if rest > 0 and k in chosen or rest < 0 and k not in chosen:
            return False
    return True


def cuts(lows, highs, spans, plus, minus):
    """Whether rows of different nights are a cut, by the words of point 17."""
    most = sum(max(0, sum(first <= k < leave for k in plus) - sum(first <= k < leave for k in minus))
               for first, leave in spans)
    return sum(lows[k] for k in plus) - sum(highs[k] for k in minus) > most


def all_comers(group):
    """All courses of a group (point 21)."""
    for size in range(group.least, group.most + 1):
        for some in combinations(range(len(group.spans)), size):
            for more in product(range(group.late_nights + 1), repeat=size):
                if sum(nights > 0 for nights in more) <= group.late_guests:
                    yield tuple(zip(some, more))


def all_sales(channel):
    """All ascending spans that a channel can sell together (point 22)."""
    numbers = {night: number for (first, leave), number in channel.counts for night in range(first, leave)}
    nights = range(min(numbers, default=0), max(numbers, default=-1) + 1)
    spans = [(first, leave) for first in nights for leave in range(first + channel.least_stay, len(nights) + nights.start + 1)]
    for size in range(sum(numbers.values()) + 1):
        for some in combinations_with_replacement(spans, size):
            if all(many <= numbers.get(night, 0) for night, many in zip(nights, loads(some, nights))):
                yield some


def all_courses(plan):
    """All courses of a plan (point 24): what comes of each group, and what each channel sells."""
    comers = [list(all_comers(group)) for group in plan.groups]
    sales = [list(all_sales(channel)) for channel in plan.channels]
    for some in product(*comers):
        for sold in product(*sales):
            yield some, sold


def random_group(random, name, nights, spans=3):
    stays = [random_span(random, nights) for _ in range(random.randint(0, spans))]
    most = random.randint(0, len(stays))
    return Group(name, stays, random.randint(0, most), most, random.randint(0, most), random.randrange(3))


def random_channel(random, name, nights):
    counts = [((night, night + 1), random.randrange(3)) for night in range(nights) if random.random() < 0.4]
    return Channel(name, counts, random.randint(1, 2))


def random_plan(random, start=0, nights=4):
    """A small plan whose first nights are not before a start."""
    singles = [(f"s{k}", random_span(random, nights), random.choice((None, 0, 1, 2, 5, 9)))
               for k in range(random.randint(0, 5))]
    groups = [random_group(random, f"g{k}", nights) for k in range(random.randrange(3))]
    channels = [random_channel(random, f"c{k}", nights) for k in range(random.randrange(2))]
    upkeep = [random_span(random, nights) for _ in range(random.randrange(2))]
    stays = [random_span(random, nights) for _ in range(random.randrange(2))]
    plan = Plan(random.randrange(6), random.randrange(4), singles, groups, channels, upkeep, stays)
    return later_plan(plan, start)


def later_span(span, by):
    return (span[0] + by, span[1] + by)


def later_plan(plan, by):
    """A plan of which all begins so many nights later."""
    singles = [(name, later_span(span, by), cost) for name, span, cost in plan.singles]
    groups = [Group(group.name, [later_span(span, by) for span in group.spans], *group.fields()[2:])
              for group in plan.groups]
    channels = [Channel(one.name, [(later_span(span, by), number) for span, number in one.counts], one.least_stay)
                for one in plan.channels]
    upkeep = [later_span(span, by) for span in plan.upkeep]
    return Plan(plan.rooms, plan.annex, singles, groups, channels, upkeep, [later_span(one, by) for one in plan.annex_stays])
