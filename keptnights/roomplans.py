"""Room plans: a room for each span, spans with a common night in different rooms."""

from keptnights.checks import are_between
from keptnights.loads import load_row, peak
from keptnights.spans import are_apart, arrival_order, sorted_spans


def least_rooms(spans):
    """The least number of rooms with a room plan: the greatest load."""
    return peak(spans)[0]


def first_free(ends, night):
    """The first room that is free from a night on, by the departures from the rooms."""
    for room, end in enumerate(ends):
        if end <= night:
            return room
    return len(ends)


def room_plan(spans, rooms):
    """The plan that gives in the arrival order the lowest free room, None if there is none."""
    if least_rooms(spans) > rooms:
        return None
    plan = [0] * len(spans)
    ends = []
    for index in arrival_order(spans):
        first, leave = spans[index]
        room = first_free(ends, first)
        if room == len(ends):
            ends.append(leave)
        ends[room] = leave
        plan[index] = room
    return tuple(plan)


def is_room_plan(spans, rooms, plan):
    """Whether any value is a room plan of the spans."""
    if not are_between(plan, len(spans), 0, rooms - 1):
        return False
    stays = sorted([(room, span[0], span[1]) for room, span in zip(plan, spans)])
    for k in range(len(stays) - 1):
        room, _, leave = stays[k]
        if stays[k + 1][0] == room and stays[k + 1][1] < leave:
            return False
    return True


def spans_in_room(spans, plan, room):
    """The spans of a room, ascending."""
    return sorted_spans([span for span, own in zip(spans, plan) if own == room])


def free_rooms(spans, plan, rooms, span):
    """The rooms that have no span with a common night, ascending."""
    busy = {room: True for other, room in zip(spans, plan) if not are_apart(other, span)}
    return tuple([room for room in range(rooms) if room not in busy])


def fits_locked(spans, plan, rooms, span):
    """Whether some room has no span with a common night."""
    return len(free_rooms(spans, plan, rooms, span)) > 0


def fits_open(spans, rooms, span):
    """Whether the spans and this one have a room plan."""
    return least_rooms(list(spans) + [span]) <= rooms


def openings(spans, rooms, length, first, leave):
    """The nights from first on from which a span of this length, up to leave, fits open."""
    if least_rooms(spans) > rooms:
        return ()
    found = []
    begun = first
    for k, many in enumerate(load_row(spans, first, leave)):
        if many >= rooms:
            begun = first + k + 1
        elif first + k + 1 - begun >= length:
            found.append(first + k + 1 - length)
    return tuple(found)
