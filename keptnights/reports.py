"""Reports: who arrives, departs and stays, by nights."""

from keptnights.courses import house_spans
from keptnights.loads import load, load_row
from keptnights.spans import has_night


def arrivals_at(spans, night):
    """How many of the spans begin with a night."""
    return len([1 for span in spans if span[0] == night])


def departures_at(spans, night):
    """How many of the spans end on the morning of a night."""
    return len([1 for span in spans if span[1] == night])


def staying_at(spans, night):
    """How many of the spans have a night and the one ahead of it."""
    return len([1 for span in spans if span[0] < night < span[1]])


def night_row(spans, rooms, night):
    """The night, arrivals, departures, those who stay, guests and free rooms."""
    guests = load(spans, night)
    changes = (arrivals_at(spans, night), departures_at(spans, night), staying_at(spans, night))
    return (night,) + changes + (guests, rooms - guests)


def report(spans, rooms, first, leave):
    """The rows of the nights from first to leave - 1."""
    return tuple([night_row(spans, rooms, night) for night in range(first, leave)])


def course_report(plan, course, moved):
    """The rows of the nights of a plan in a course."""
    spans = house_spans(plan, course, moved)
    return tuple([night_row(spans, plan.rooms, night) for night in plan.nights()])


def occupancy(spans, rooms, first, leave):
    """The nights sold from first to leave - 1, and all that could be sold."""
    return (sum(load_row(spans, first, leave)), rooms * (leave - first))


def is_balanced(spans, night):
    """Whether the guests are those of the night before, less departures, and arrivals."""
    before = load(spans, night - 1)
    return load(spans, night) == before - departures_at(spans, night) + arrivals_at(spans, night)


def worst_row(plan, night):
    """The night, singles, upkeep, groups and channels in the worst course, and the rooms."""
    singles = load([span for _, span, _ in plan.singles], night)
    groups = sum([group.worst(night) for group in plan.groups])
    channels = sum([channel.worst(night) for channel in plan.channels])
    return (night, singles, load(plan.upkeep, night), groups, channels, plan.rooms)


def worst_rows(plan):
    """The worst counts of the nights of a plan."""
    return tuple([worst_row(plan, night) for night in plan.nights()])


def house_lists(plan, course, moved, night):
    """The names of the singles that are in the house at a night, and of those in the annex."""
    there = [(index, name) for index, (name, span, _) in enumerate(plan.singles) if has_night(span, night)]
    house = tuple([name for index, name in there if index not in moved])
    return (house, tuple([name for index, name in there if index in moved]))


def fullest_nights(spans, rooms, first, leave):
    """The least number of free rooms at a night from first to leave - 1, and the nights that have it."""
    row = load_row(spans, first, leave)
    most = max(row)
    return (rooms - most, tuple([first + k for k, guests in enumerate(row) if guests == most]))
