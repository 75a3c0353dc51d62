"""Folios: sets of events with different stamps, whatever the order in which they were told."""

from keptnights.checks import as_tuples
from keptnights.errors import Taken, TooMany
from keptnights.events import is_stamp, minute_of, want_event

MOST_EVENTS = 200


class Folio:
    """All that was told of a guest."""

    def __init__(self, events=()):
        # By stamps for what is looked up, and as a row for what is iterated over.
        self.told = {}
        self.rows = ()
        for event in events:
            self.tell(event)

    def __len__(self):
        return len(self.rows)

    def __iter__(self):
        return iter(self.rows)

    def __contains__(self, x):
        return is_stamp(x) and as_tuples(x) in self.told

    def __eq__(self, other):
        return isinstance(other, Folio) and self.rows == other.rows

    @property
    def events(self):
        """The events, ascending by stamps."""
        return self.rows

    def tell(self, event):
        """Add an event; one that is there already changes nothing."""
        told = want_event(event)
        stamp = told[0]
        if stamp in self.told:
            if self.told[stamp] != told:
                raise Taken(stamp)
            return
        if len(self.rows) >= MOST_EVENTS:
            raise TooMany(MOST_EVENTS)
        self.told[stamp] = told
        self.rows = tuple(sorted(list(self.rows) + [told]))

    def joined(self, other):
        """A folio of the events of both."""
        made = Folio(self.rows)
        for event in other.events:
            made.tell(event)
        return made

    def is_part_of(self, other):
        """Whether all events are events of the other folio."""
        return len(self.after(other)) == 0

    def until(self, minute):
        """The folio of the events up to a minute."""
        return Folio([event for event in self.rows if minute_of(event) <= minute])

    def after(self, other):
        """The events that the other folio does not have, ascending."""
        return tuple([event for event in self.rows if other.told.get(event[0]) != event])

    def clash(self, other):
        """The first stamp that both have with unlike events, or None."""
        for event in self.after(other):
            if event[0] in other.told:
                return event[0]
        return None
