"""Loads: how many of some spans have a night."""

from keptnights.spans import has_night, span_length


def load(spans, night):
    """The number of the spans that have a night."""
    return sum([1 for span in spans if has_night(span, night)])


def load_steps(spans):
    """The pairs (night, load) of the nights at which the load changes, ascending."""
    changes = {}
    for first, leave in spans:
        changes[first] = changes.get(first, 0) + 1
        changes[leave] = changes.get(leave, 0) - 1
    steps = []
    present = 0
    for night in sorted(list(changes)):
        if changes[night] != 0:
            present = present + changes[night]
            steps.append((night, present))
    return tuple(steps)


def peak(spans):
    """The greatest load and the first night that has it, (0, None) for no spans."""
    most = 0
    found = None
    for night, many in load_steps(spans):
        if many > most:
            most = many
            found = night
    return (most, found)


def first_over(spans, rooms):
    """The first night with a load above the rooms, or None."""
    for night, many in load_steps(spans):
        if many > rooms:
            return night
    return None


def over_spans(spans, rooms):
    """The spans of all nights with a load above the rooms, ascending and as long as possible."""
    found = []
    begun = None
    for night, many in load_steps(spans):
        if many > rooms and begun is None:
            begun = night
        elif many <= rooms and begun is not None:
            found.append((begun, night))
            begun = None
    return tuple(found)


def nights_sold(spans):
    """The sum of the lengths of the spans."""
    return sum([span_length(span) for span in spans])


def load_row(spans, first, leave):
    """The loads of the nights from first to leave - 1."""
    changes = [0] * (leave - first + 1)
    for begin, end in spans:
        begin = max(begin, first)
        end = min(end, leave)
        if begin < end:
            changes[begin - first] += 1
            changes[end - first] -= 1
    row = []
    present = 0
    for k in range(leave - first):
        present = present + changes[k]
        row.append(present)
    return tuple(row)


def sums_before(row):
    """For each night, and behind the last one, the sum of the items of all nights before it."""
    sums = [0]
    for item in row:
        sums.append(sums[-1] + item)
    return sums
