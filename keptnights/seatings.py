"""Seatings: rooms for all guests, of the kind that they want or of a later one."""

from keptnights.checks import is_row, is_sequence, is_whole
from keptnights.kinds import over_guests, slacks, spare_rooms


def seat_bar(kinds, wants):
    """The name of the last kind with a slack below 0, or None."""
    barring = [name for name, slack in zip(kinds.names, slacks(kinds, wants)) if slack < 0]
    return barring[-1] if len(barring) > 0 else None


def upgraded(kinds, wants):
    """The triples (wanted, given, guests), by indexes, of those who get no room of their kind."""
    left = list(spare_rooms(kinds, wants))
    over = over_guests(kinds, wants)
    seats = []
    for wanted in reversed(range(len(over))):
        waiting = over[wanted]
        for given in range(wanted + 1, len(left)):
            many = min(waiting, left[given])
            waiting = waiting - many
            left[given] -= many
            seats.append((wanted, given, many))
    return seats


def seating(kinds, wants):
    """The seating in which the fewest guests get another kind, None if there is none."""
    if seat_bar(kinds, wants) is not None:
        return None
    rooms = kinds.room_counts
    own = [(k, k, min(wants[k], rooms[k])) for k in range(len(rooms))]
    seats = [seat for seat in sorted(own + upgraded(kinds, wants)) if seat[2] > 0]
    names = kinds.names
    return tuple([(names[wanted], names[given], many) for wanted, given, many in seats])


def is_seat(kinds, value):
    """Whether a value is a triple (wanted kind, given kind, guests) that may be in a seating."""
    if not is_row(value, 3) or value[0] not in kinds or value[1] not in kinds:
        return False
    if kinds.place(value[0]) > kinds.place(value[1]):
        return False
    return is_whole(value[2]) and value[2] > 0


def guests_by(kinds, seats, at):
    """For each kind the guests of the triples that have it as the item at this index."""
    return [sum([seat[2] for seat in seats if seat[at] == name]) for name in kinds.names]


def is_seating(kinds, wants, seats):
    """Whether any value is a seating of all guests."""
    if not is_sequence(seats) or not all([is_seat(kinds, seat) for seat in seats]):
        return False
    if guests_by(kinds, seats, 0) != list(wants):
        return False
    return all([many <= rooms for many, rooms in zip(guests_by(kinds, seats, 1), kinds.room_counts)])


def upgrades(seats):
    """The number of the guests with another kind than the wanted one."""
    return sum([many for wanted, given, many in seats if wanted != given])


def upgrade_steps(kinds, seats):
    """The sum over all guests of the places that the given kind is later."""
    return sum([(kinds.place(given) - kinds.place(wanted)) * many for wanted, given, many in seats])


def fewest_upgrades(kinds, wants):
    """The least number of guests with another kind, None if there is no seating."""
    return None if seat_bar(kinds, wants) is not None else sum(over_guests(kinds, wants))


def carries(kinds, wants):
    """For each kind the guests who must be given a room of a later kind."""
    row = []
    carried = 0
    for rooms, guests in zip(kinds.room_counts, wants):
        carried = max(0, carried + guests - rooms)
        row.append(carried)
    return tuple(row)


def fewest_steps(kinds, wants):
    """The least sum of the places that given kinds are later, None if there is no seating."""
    return None if seat_bar(kinds, wants) is not None else sum(carries(kinds, wants))
