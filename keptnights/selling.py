"""How many guests more can be seated, and which of the offered ones pay most."""

from keptnights.kinds import slack_row, slacks
from keptnights.seatings import seat_bar


def most_more(rooms, wants, place):
    """How many guests more who want the kind at a place can be seated, 0 if the guests cannot."""
    row = slack_row(rooms, wants)
    return 0 if min(row) < 0 else min(row[:place + 1])


def more_of(kinds, wants, name):
    """How many guests more who want a kind can be seated, 0 if the guests cannot."""
    return most_more(kinds.room_counts, wants, kinds.place(name))


def open_counts(kinds, wants):
    """The pairs (name, more_of) of all kinds."""
    return tuple([(name, more_of(kinds, wants, name)) for name in kinds.names])


def sums_of(wants, more):
    """The guests of two rows together."""
    return [one + other for one, other in zip(wants, more)]


def can_take(kinds, wants, more):
    """Whether the guests and more guests can be seated."""
    return seat_bar(kinds, sums_of(wants, more)) is None


def tight_kind(kinds, wants, name):
    """Of the kinds up to this one with a slack of at most 0 the name of the last one, or None."""
    place = kinds.place(name)
    row = slacks(kinds, wants)
    tight = [k for k in range(place + 1) if row[k] <= 0]
    return kinds.names[tight[-1]] if len(tight) > 0 else None


def dearest_row(rooms, wants, offers, pays):
    """The guests taken by dearest_taken for kinds with these numbers of rooms."""
    taken = [0] * len(rooms)
    # Higher pays come first, of equal ones the later kind.
    order = sorted([(-pays[k], -k) for k in range(len(rooms))])
    for _, minus_place in order:
        place = -minus_place
        more = most_more(rooms, sums_of(wants, taken), place)
        taken[place] = min(offers[place], more)
    return tuple(taken)


def dearest_taken(kinds, wants, offers, pays):
    """For each kind the offered guests who are taken so that all together pay most."""
    return dearest_row(kinds.room_counts, wants, offers, pays)


def pay_of(taken, pays):
    """What taken guests pay."""
    return sum([many * pay for many, pay in zip(taken, pays)])


def room_worth(kinds, wants, offers, pays, name):
    """How much more the taken guests pay with one room more of a kind."""
    place = kinds.place(name)
    rooms = kinds.room_counts
    # One room more may be above the greatest number of rooms of Kinds.
    grown = [rooms[k] + 1 if k == place else rooms[k] for k in range(len(rooms))]
    more = pay_of(dearest_row(grown, wants, offers, pays), pays)
    return more - pay_of(dearest_taken(kinds, wants, offers, pays), pays)
