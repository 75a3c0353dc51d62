"""Bookings of kinds over several nights; guests may be given other rooms every night."""

from keptnights.kinds import slacks
from keptnights.seatings import fewest_steps, fewest_upgrades, seat_bar, seating
from keptnights.selling import more_of
from keptnights.spans import has_night, hull, nights_of, span_length, turning_nights


def wants_at(kinds, bookings, night):
    """For each kind the number of the bookings that have a night."""
    wants = [0] * len(kinds)
    for kind, span in bookings:
        if has_night(span, night):
            wants[kinds.place(kind)] += 1
    return tuple(wants)


def spans_booked(bookings):
    """The spans of the bookings."""
    return tuple([tuple(span) for _, span in bookings])


def all_nights(bookings):
    """The nights of the hull of the bookings."""
    span = hull(spans_booked(bookings))
    return () if span is None else nights_of(span)


def pieces(kinds, bookings, span):
    """The parts of a span with the same guests at all nights: pairs (span, wants), ascending."""
    turns = turning_nights(list(spans_booked(bookings)) + [span])
    inside = [night for night in turns if span[0] <= night <= span[1]]
    found = []
    for k in range(len(inside) - 1):
        found.append(((inside[k], inside[k + 1]), wants_at(kinds, bookings, inside[k])))
    return found


def all_pieces(kinds, bookings):
    """The pieces of the hull of the bookings."""
    span = hull(spans_booked(bookings))
    return [] if span is None else pieces(kinds, bookings, span)


def first_barred(kinds, bookings):
    """The first night whose guests cannot be seated, with its seat_bar, or None."""
    for span, wants in all_pieces(kinds, bookings):
        bar = seat_bar(kinds, wants)
        if bar is not None:
            return (span[0], bar)
    return None


def upgrades_over(kinds, bookings):
    """The sums of fewest_upgrades and fewest_steps over all nights, None if a night is barred."""
    if first_barred(kinds, bookings) is not None:
        return None
    guests = 0
    steps = 0
    for span, wants in all_pieces(kinds, bookings):
        guests = guests + span_length(span) * fewest_upgrades(kinds, wants)
        steps = steps + span_length(span) * fewest_steps(kinds, wants)
    return (guests, steps)


def seatings_over(kinds, bookings):
    """The pairs (night, seating) of the turning nights with a new seating, None if one is barred."""
    if first_barred(kinds, bookings) is not None:
        return None
    found = []
    present = ()
    for night in turning_nights(spans_booked(bookings)):
        seats = seating(kinds, wants_at(kinds, bookings, night))
        if seats != present:
            found.append((night, seats))
        present = seats
    return tuple(found)


def more_over(kinds, bookings, name, span):
    """How many guests more who want a kind can be seated at each night of a span."""
    return min([more_of(kinds, wants, name) for _, wants in pieces(kinds, bookings, span)])


def narrow_nights(kinds, bookings, span):
    """The least difference of all rooms and all guests at a night of a span, and its nights."""
    rooms = sum(kinds.room_counts)
    parts = pieces(kinds, bookings, span)
    least = min([rooms - sum(wants) for _, wants in parts])
    narrow = [part for part, wants in parts if rooms - sum(wants) == least]
    return (least, tuple([night for part in narrow for night in nights_of(part)]))


def slack_rows(kinds, bookings, span):
    """The slacks for each night of a span."""
    rows = []
    for part, wants in pieces(kinds, bookings, span):
        rows.extend([slacks(kinds, wants)] * span_length(part))
    return tuple(rows)
