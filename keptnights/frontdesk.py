"""Front desks: guests arrive, get rooms that are free, keep them, and leave."""

from keptnights.checks import want_number
from keptnights.courses import house_spans
from keptnights.errors import Refused, Taken, Unknown
from keptnights.plans import MOST_ROOMS

MOST_NIGHT = 99999


class FrontDesk:
    """Who is in the house at a night, in which room, and all arrivals so far."""

    def __init__(self, rooms, night=0):
        want_number(rooms, 0, MOST_ROOMS)
        want_number(night, 0, MOST_NIGHT)
        self.night = night
        self.empty = list(range(rooms))
        self.rooms_given = {}
        self.arrivals = []

    def __len__(self):
        return len(self.rooms_given)

    def __contains__(self, x):
        return x in self.rooms_given

    @property
    def log(self):
        """The tuples (night, guest, room) of all arrivals."""
        return tuple(self.arrivals)

    def free(self):
        """The free rooms, ascending."""
        return tuple(self.empty)

    def room_of(self, guest):
        """The room of a guest."""
        if guest not in self.rooms_given:
            raise Unknown(guest)
        return self.rooms_given[guest]

    def arrive(self, guest, room=None):
        """Give a guest the wished room, or the first free one."""
        if guest in self.rooms_given:
            raise Taken(guest)
        if len(self.empty) == 0:
            raise Refused("full", self.night)
        if room is not None and room not in self.empty:
            raise Refused("busy", self.night)
        given = self.empty[0] if room is None else room
        self.empty.remove(given)
        self.rooms_given[guest] = given
        self.arrivals.append((self.night, guest, given))
        return given

    def leave(self, guest):
        """A guest leaves; the room that is free again."""
        room = self.room_of(guest)
        self.rooms_given.pop(guest)
        self.empty = sorted(self.empty + [room])
        return room

    def end_night(self):
        """Go on to the next night."""
        self.night += 1
        return self.night


def guests_by(nights):
    """For each of some nights the numbers of its guests, ascending."""
    found = {}
    for guest, night in enumerate(nights):
        found.setdefault(night, []).append(guest)
    return found


def arrive_wishing(desk, guest, wishes):
    """A guest gets the free room of the number that the next wish tells."""
    wish = 0 if len(wishes) == 0 else wishes[len(desk.arrivals) % len(wishes)]
    free = desk.free()
    # Without a free room no number can be told, and the desk refuses the guest.
    desk.arrive(guest, None if len(free) == 0 else free[wish % len(free)])


def run_course(plan, course, moved, wishes=()):
    """The log of a desk through the nights of a plan, with rooms given by wishes."""
    if plan.span is None:
        return ()
    spans = house_spans(plan, course, moved)
    arriving = guests_by([span[0] for span in spans])
    leaving = guests_by([span[1] for span in spans])
    desk = FrontDesk(plan.rooms, plan.span[0])
    for night in plan.nights():
        for guest in leaving.get(night, []):
            desk.leave(guest)
        for guest in arriving.get(night, []):
            arrive_wishing(desk, guest, wishes)
        desk.end_night()
    return desk.log


def rooms_in_log(log):
    """The rooms of a log by the numbers of the guests, ascending."""
    arrivals = sorted([(guest, place, room) for place, (_, guest, room) in enumerate(log)])
    return tuple([room for _, _, room in arrivals])
