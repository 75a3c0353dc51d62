"""Exchanges: from a morning on, the spans of two rooms get each other's room."""

from keptnights.checks import are_between, is_sequence, is_row, is_whole
from keptnights.errors import BadItem
from keptnights.roomplans import is_room_plan
from keptnights.spans import arrival_order


def can_exchange(spans, plan, morning, one, two):
    """Whether no span of the two rooms begins before the morning and ends after it."""
    stays = [span for span, room in zip(spans, plan) if room in (one, two)]
    return not any([first < morning < leave for first, leave in stays])


def exchanged(spans, plan, morning, one, two):
    """The room plan behind an exchange."""
    other = {one: two, two: one}
    rooms = []
    for span, room in zip(spans, plan):
        rooms.append(other.get(room, room) if span[0] >= morning else room)
    return tuple(rooms)


def want_room_plans(spans, rooms, one, other):
    """Raise BadItem for the first of two values that is no room plan."""
    if not is_room_plan(spans, rooms, one):
        raise BadItem(0)
    if not is_room_plan(spans, rooms, other):
        raise BadItem(1)


def tail_way(spans, rooms, one, other):
    """Exchanges (morning, room, room) that lead from a room plan to another one."""
    want_room_plans(spans, rooms, one, other)
    way = []
    present = tuple(one)
    for index in arrival_order(spans):
        if present[index] != other[index]:
            step = (spans[index][0], present[index], other[index])
            present = exchanged(spans, present, step[0], step[1], step[2])
            way.append(step)
    return tuple(way)


def is_exchange(value, rooms):
    """Whether a value is a triple (morning, room, room) with two different rooms."""
    if not is_row(value, 3) or not is_whole(value[0]) or not are_between(value[1:], 2, 0, rooms - 1):
        return False
    return value[1] != value[2]


def is_tail_way(spans, rooms, one, other, way):
    """Whether a sequence of exchanges can be done and leads from a room plan to another one."""
    want_room_plans(spans, rooms, one, other)
    if not is_sequence(way) or not all([is_exchange(step, rooms) for step in way]):
        return False
    present = tuple(one)
    for morning, room, another in way:
        if not can_exchange(spans, present, morning, room, another):
            return False
        present = exchanged(spans, present, morning, room, another)
    return present == tuple(other)


def plan_by_wish(spans, plan, kept, wish):
    """The plan behind the exchange for a wish; the plan itself if it cannot be done."""
    index, room = wish
    morning = spans[index][0]
    if plan[index] == room or not can_exchange(spans, plan, morning, plan[index], room):
        return plan
    found = exchanged(spans, plan, morning, plan[index], room)
    return found if all([found[k] == wished for k, wished in kept]) else plan


def closer_plan(spans, one, wishes):
    """The room plan behind wishes (index, room), those fulfilled earlier being kept."""
    present = tuple(one)
    kept = []
    for wish in wishes:
        present = plan_by_wish(spans, present, kept, wish)
        if present[wish[0]] == wish[1]:
            kept.append(wish)
    return present
