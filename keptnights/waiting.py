"""Waiting lists: requests have rooms in turn, and others come in when one gives up."""

from keptnights.checks import want_name, want_span
from keptnights.errors import Taken, Unknown
from keptnights.loads import load
from keptnights.spans import nights_of


def room_at(row, night):
    """The number of a row by nights at a night; there is no room behind its last one."""
    return row[night] if night < len(row) else 0


def left_in_turn(rooms, spans):
    """The indexes of the spans that find room one after the other, and the rooms that are left by nights."""
    left = list(rooms)
    taken = []
    for index, span in enumerate(spans):
        if all([room_at(left, night) > 0 for night in nights_of(span)]):
            taken.append(index)
            for night in nights_of(span):
                left[night] = left[night] - 1
    return (taken, left)


def taken_in_turn(rooms, spans):
    """The indexes of the spans that find room when each one is taken whenever there is room."""
    return tuple(left_in_turn(rooms, spans)[0])


def spans_asked(requests):
    """The spans of some requests."""
    return [span for _, span in requests]


class WaitingList:
    """Requests in the sequence in which they were made."""

    def __init__(self, rooms):
        self.rooms = tuple(rooms)
        self.requests = ()

    def __len__(self):
        return len(self.requests)

    @property
    def names(self):
        """The names of all requests, in sequence."""
        return tuple([name for name, _ in self.requests])

    def inside(self):
        """The names of the requests that have a room, in sequence."""
        return tuple([self.requests[index][0] for index in taken_in_turn(self.rooms, spans_asked(self.requests))])

    def waiting(self):
        """The names of the requests that have no room, in sequence."""
        inside = {name: True for name in self.inside()}
        return tuple([name for name in self.names if name not in inside])

    def ask(self, name, span):
        """Add a request at the end; whether it has a room."""
        want_name(name)
        want_span(span)
        if name in self.names:
            raise Taken(name)
        self.requests = self.requests + ((name, tuple(span)),)
        return name in self.inside()

    def number_of(self, name):
        """The number of a request in the sequence."""
        for number, request in enumerate(self.requests):
            if request[0] == name:
                return number
        raise Unknown(name)

    def give_up(self, name):
        """Take a request away; the names of those that have a room now and had none."""
        number = self.number_of(name)
        waited = self.waiting()
        self.requests = self.requests[:number] + self.requests[number + 1:]
        return tuple([one for one in self.inside() if one in waited])

    def free_at(self, night):
        """The rooms of a night that no request has."""
        taken = taken_in_turn(self.rooms, spans_asked(self.requests))
        return room_at(self.rooms, night) - load([self.requests[index][1] for index in taken], night)

    def place(self, name):
        """The number of waiting requests ahead of a request, None if it has a room."""
        self.number_of(name)
        waiting = self.waiting()
        return waiting.index(name) if name in waiting else None

    def barred_by(self, name):
        """The nights of a request at which those ahead of it leave no room."""
        number = self.number_of(name)
        _, left = left_in_turn(self.rooms, spans_asked(self.requests[:number]))
        return tuple([night for night in nights_of(self.requests[number][1]) if room_at(left, night) <= 0])
