"""Rooms that are given on arrival, any free one, while others are in the house already."""

from keptnights.checks import is_between
from keptnights.loads import load
from keptnights.roomplans import is_room_plan
from keptnights.spans import are_apart, arrival_order, has_night


def are_settled(night, guests, rooms):
    """Whether the guests of pairs (span, room) all have a night, in different rooms."""
    given = [room for _, room in guests]
    if not all([is_between(room, 0, rooms - 1) for room in given]):
        return False
    return load([span for span, _ in guests], night) == len(given) == len({room: True for room in given})


def rooms_free_on(taken, rooms, night):
    """The rooms that none of the pairs (span, room) has at a night, ascending."""
    busy = {room: True for span, room in taken if has_night(span, night)}
    return tuple([room for room in range(rooms) if room not in busy])


def given_rooms(guests, spans, rooms, choice=0):
    """The rooms that the spans get on arrival, None if one finds no free room."""
    plan = [0] * len(spans)
    taken = list(guests)
    for index in arrival_order(spans):
        span = spans[index]
        # The first nights ascend, so who has left is never in the way again.
        taken = [pair for pair in taken if pair[0][1] > span[0]]
        free = rooms_free_on(taken, rooms, span[0])
        if len(free) == 0:
            return None
        plan[index] = free[choice % len(free)]
        taken.append((span, plan[index]))
    return tuple(plan)


def first_stuck(guests, spans, rooms):
    """The index of the first span, in the arrival order, that finds no free room, or None."""
    inside = [span for span, _ in guests]
    for index in arrival_order(spans):
        first = spans[index][0]
        inside = [span for span in inside if span[1] > first]
        inside.append(spans[index])
        if load(inside, first) > rooms:
            return index
    return None


def is_given(guests, spans, rooms, plan):
    """Whether any value is a room plan of the spans that also fits the guests."""
    if not is_room_plan(spans, rooms, plan):
        return False
    for span, room in guests:
        if not all([are_apart(span, spans[k]) for k in range(len(spans)) if plan[k] == room]):
            return False
    return True
