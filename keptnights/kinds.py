"""Kinds of rooms, the plainest first, and how many rooms guests leave of them."""

from keptnights.checks import first_twice, is_between, is_name, is_row, want_right, want_sequence
from keptnights.errors import Taken, Unknown

MOST_ROOMS = 400
MOST_KINDS = 8


def is_kind(value):
    """Whether a value is a pair (name, rooms)."""
    return is_row(value, 2) and is_name(value[0]) and is_between(value[1], 0, MOST_ROOMS)


class Kinds:
    """A chain of kinds; a guest who wants a kind may be given a room of it or of a later one."""

    def __init__(self, pairs):
        want_sequence(pairs)
        want_right([is_kind(pair) for pair in pairs], MOST_KINDS)
        twice = first_twice([pair[0] for pair in pairs])
        if twice is not None:
            raise Taken(twice)
        self.pairs = tuple([tuple(pair) for pair in pairs])

    def __len__(self):
        return len(self.pairs)

    def __iter__(self):
        return iter(self.pairs)

    def __contains__(self, x):
        return x in self.names

    def __eq__(self, other):
        return isinstance(other, Kinds) and self.pairs == other.pairs

    @property
    def names(self):
        """The names of the kinds."""
        return tuple([pair[0] for pair in self.pairs])

    @property
    def room_counts(self):
        """The numbers of rooms of the kinds."""
        return tuple([pair[1] for pair in self.pairs])

    def place(self, name):
        """The index of a name."""
        if name not in self.names:
            raise Unknown(name)
        return self.names.index(name)

    def without_rooms(self, name, many):
        """The kinds with so many rooms less of one kind, at least 0."""
        place = self.place(name)
        pairs = list(self.pairs)
        pairs[place] = (name, max(0, pairs[place][1] - many))
        return Kinds(pairs)


def differences(rooms, wants):
    """For each kind the rooms less the guests."""
    return [many - guests for many, guests in zip(rooms, wants)]


def slack_row(rooms, wants):
    """The slacks of kinds with these numbers of rooms."""
    row = []
    total = 0
    for many in reversed(differences(rooms, wants)):
        total = total + many
        row.append(total)
    return tuple(row[::-1])


def slacks(kinds, wants):
    """For each kind the rooms of it and all later kinds less the guests who want one of these."""
    return slack_row(kinds.room_counts, wants)


def spare_rooms(kinds, wants):
    """For each kind the rooms less the guests, at least 0."""
    return tuple([max(0, many) for many in differences(kinds.room_counts, wants)])


def over_guests(kinds, wants):
    """For each kind the guests less the rooms, at least 0."""
    return tuple([max(0, -many) for many in differences(kinds.room_counts, wants)])
