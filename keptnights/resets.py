"""Resets: channels whose counts are replaced by each table that arrives."""

from keptnights.errors import BadItem, Refused
from keptnights.wires import MOST_NIGHTS, want_counts


class Reset:
    """A channel whose counts fall with each sale, until a table takes their place."""

    def __init__(self, table):
        want_counts(table, MOST_NIGHTS)
        self.left = list(table)
        self.sold = [0] * len(table)
        self.coming = []

    def tell(self, table):
        """Send a table to the channel."""
        want_counts(table, MOST_NIGHTS)
        if len(table) != len(self.left):
            raise BadItem(None)
        self.coming.append(tuple(table))

    def arrive(self):
        """Let the next table arrive."""
        if len(self.coming) == 0:
            raise Refused("nothing", None)
        self.left = list(self.coming[0])
        self.coming = self.coming[1:]

    def sell(self, span):
        """Let the channel sell a span."""
        for night in range(span[0], span[1]):
            if self.left[night] == 0:
                raise Refused("limit", night)
        for night in range(span[0], span[1]):
            self.left[night] -= 1
            self.sold[night] += 1

    def reachable(self):
        """By nights, the most that the channel can have sold in the end."""
        tables = [self.sold, self.left] + self.coming
        return tuple([sum([table[night] for table in tables]) for night in range(len(self.left))])


def resets_open(rooms, channels):
    """The first night at which the channels together can sell more than the rooms, or None."""
    rows = [channel.reachable() for channel in channels]
    for night, many in enumerate(rooms):
        if sum([row[night] for row in rows]) > many:
            return night
    return None


def same_wish(limits, sold):
    """By nights, the counts with which a channel reaches its limits, by what is known to be sold."""
    return tuple([max(0, limit - many) for limit, many in zip(limits, sold)])


def drift(limits, sold, unheard):
    """By nights, how far beyond its limit a channel gets by sales that were not heard of."""
    far = []
    for limit, known, other, wish in zip(limits, sold, unheard, same_wish(limits, sold)):
        total = known + other
        far.append(total + wish - max(limit, total))
    return tuple(far)
