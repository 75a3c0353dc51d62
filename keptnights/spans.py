"""Spans: a guest arrives ahead of the first night and departs on the morning of the last number."""


def span_length(span):
    """The number of the nights of a span."""
    return span[1] - span[0]


def has_night(span, night):
    """Whether a span has a night."""
    return span[0] <= night < span[1]


def is_within(inner, outer):
    """Whether all nights of the first span are nights of the second one."""
    return outer[0] <= inner[0] and inner[1] <= outer[1]


def meeting(one, two):
    """The span of the common nights of two spans, or None."""
    first = max(one[0], two[0])
    leave = min(one[1], two[1])
    return (first, leave) if first < leave else None


def are_apart(one, two):
    """Whether two spans have no common night."""
    return meeting(one, two) is None


def nights_of(span):
    """The nights of a span, ascending."""
    return tuple(range(span[0], span[1]))


def arrival_order(spans):
    """The indexes of the spans by their first nights, equal ones by indexes."""
    arrivals = sorted([(span[0], index) for index, span in enumerate(spans)])
    return tuple([index for _, index in arrivals])


def turning_nights(spans):
    """The first nights and the departures of the spans, ascending, each once."""
    turns = {night: True for span in spans for night in span}
    return tuple(sorted(list(turns)))


def hull(spans):
    """The least span that contains all spans, None for no spans."""
    if len(spans) == 0:
        return None
    return (min([span[0] for span in spans]), max([span[1] for span in spans]))


def longer(span, by):
    """A span with so many nights more at its end."""
    return (span[0], span[1] + by)


def sorted_spans(spans):
    """The spans, ascending."""
    # A list and a tuple cannot be compared, so all become tuples first.
    return tuple(sorted([tuple(span) for span in spans]))


def merged_spans(spans):
    """The ascending spans of all nights of the spans; they are apart and do not touch."""
    found = []
    for first, leave in sorted_spans(spans):
        if len(found) > 0 and first <= found[-1][1]:
            found[-1] = (found[-1][0], max(leave, found[-1][1]))
        else:
            found.append((first, leave))
    return tuple(found)
