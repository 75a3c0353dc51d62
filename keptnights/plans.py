"""Plans: single stays, groups, channels and upkeep of a house with an annex."""

from keptnights.channels import Channel
from keptnights.checks import copied_spans, first_twice, is_between, is_name, is_row, is_span
from keptnights.checks import want_number, want_right, want_sequence
from keptnights.errors import Taken, TooMany
from keptnights.groups import Group
from keptnights.loads import load
from keptnights.spans import hull, longer, nights_of, span_length

MOST_ROOMS = 400
MOST_COST = 9999
MOST_SPANS = 60
MOST_OBJECTS = 8
MOST_NIGHTS = 90


def is_cost(value):
    """Whether a value is the cost of a stay that can move, or None."""
    return value is None or is_between(value, 0, MOST_COST)


def is_single(value):
    """Whether a value is a triple (name, span, cost) of a single stay."""
    return is_row(value, 3) and is_name(value[0]) and is_span(value[1]) and is_cost(value[2])


def copied_singles(value):
    """The triples (name, span, cost) of a sequence as tuples."""
    want_sequence(value)
    want_right([is_single(item) for item in value], MOST_SPANS)
    return tuple([(name, tuple(span), cost) for name, span, cost in value])


def copied_group(group):
    """A group of the same fields."""
    return Group(group.name, group.spans, group.least, group.most, group.late_guests, group.late_nights)


def copied_groups(value):
    """Copies of the groups of a sequence."""
    want_sequence(value)
    want_right([isinstance(item, Group) for item in value], MOST_OBJECTS)
    return tuple([copied_group(group) for group in value])


def copied_channel(channel):
    """A channel of the same fields."""
    return Channel(channel.name, channel.counts, channel.least_stay)


def copied_channels(value):
    """Copies of the channels of a sequence."""
    want_sequence(value)
    want_right([isinstance(item, Channel) for item in value], MOST_OBJECTS)
    return tuple([copied_channel(channel) for channel in value])


def want_names_once(singles, groups, channels):
    """Raise Taken for the first name of a single stay, a group or a channel that stands twice."""
    names = [single[0] for single in singles]
    names.extend([group.name for group in groups])
    names.extend([channel.name for channel in channels])
    twice = first_twice(names)
    if twice is not None:
        raise Taken(twice)


def stays_with_all_nights(group):
    """The spans of a group, each with all the nights that its guest may stay on."""
    return [longer(span, group.late_nights) for span in group.spans]


def hull_of_plan(singles, groups, channels, others):
    """The hull of all spans of a plan, None for none; the nights are at most MOST_NIGHTS."""
    spans = [single[1] for single in singles] + list(others)
    for group in groups:
        spans.extend(stays_with_all_nights(group))
    for channel in channels:
        spans.extend([part[0] for part in channel.counts])
    found = hull(spans)
    if found is not None and span_length(found) > MOST_NIGHTS:
        raise TooMany(MOST_NIGHTS)
    return found


def counted_from(span, night):
    """A span with its nights counted from a night."""
    return (span[0] - night, span[1] - night)


class Plan:
    """What a house has sold and may still have to take in."""

    def __init__(self, rooms, annex, singles, groups=(), channels=(), upkeep=(), annex_stays=()):
        want_number(rooms, 0, MOST_ROOMS)
        want_number(annex, 0, MOST_ROOMS)
        self.rooms = rooms
        self.annex = annex
        self.singles = copied_singles(singles)
        self.groups = copied_groups(groups)
        self.channels = copied_channels(channels)
        self.upkeep = copied_spans(upkeep, MOST_SPANS)
        self.annex_stays = copied_spans(annex_stays, MOST_SPANS)
        want_names_once(self.singles, self.groups, self.channels)
        others = self.upkeep + self.annex_stays
        self.span = hull_of_plan(self.singles, self.groups, self.channels, others)

    def __eq__(self, other):
        return isinstance(other, Plan) and self.fields() == other.fields()

    def fields(self):
        """The fields in the order of the parameters, groups and channels as their fields."""
        groups = tuple([group.fields() for group in self.groups])
        channels = tuple([channel.fields() for channel in self.channels])
        rest = (self.upkeep, self.annex_stays)
        return (self.rooms, self.annex, self.singles, groups, channels) + rest

    def nights(self):
        """The nights of the plan, ascending."""
        return () if self.span is None else nights_of(self.span)

    def worst(self, night):
        """The greatest number of rooms that a night can need if nobody moves."""
        spans = [single[1] for single in self.singles]
        groups = sum([group.worst(night) for group in self.groups])
        channels = sum([channel.worst(night) for channel in self.channels])
        return load(spans, night) + load(self.upkeep, night) + groups + channels

    def annex_load(self, night):
        """The number of the stays that have a room of the annex already at a night."""
        return load(self.annex_stays, night)

    def needs(self):
        """By the nights of the plan, how many stays must move at least."""
        return tuple([max(0, self.worst(night) - self.rooms) for night in self.nights()])

    def free(self):
        """By the nights of the plan, how many stays can move at most."""
        return tuple([self.annex - self.annex_load(night) for night in self.nights()])

    def stays(self):
        """The pairs (span, cost) of the single stays, counted from the first night of the plan."""
        return tuple([(counted_from(span, self.span[0]), cost) for _, span, cost in self.singles])


def changed_plan(plan, singles=None, groups=None, channels=None, upkeep=None, annex_stays=None):
    """A plan of the same rooms, with what is passed in the place of what it has."""
    return Plan(
        plan.rooms,
        plan.annex,
        plan.singles if singles is None else singles,
        plan.groups if groups is None else groups,
        plan.channels if channels is None else channels,
        plan.upkeep if upkeep is None else upkeep,
        plan.annex_stays if annex_stays is None else annex_stays,
    )
