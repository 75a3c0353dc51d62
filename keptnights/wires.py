"""Wires: what the house and its channels tell each other, some of it still on the way."""

from keptnights.checks import is_between, is_name, is_row, want_number, want_right, want_sequence
from keptnights.errors import BadItem, Refused, Taken, Unknown
from keptnights.spans import has_night

MOST_NIGHTS = 30
MOST_CHANNELS = 6
MOST_SALES = 400


def want_counts(value, limit):
    """Raise BadItem unless a value is a row of numbers of rooms or sales, TooMany for more than the limit."""
    want_sequence(value)
    want_right([is_between(item, 0, MOST_SALES) for item in value], limit)


def want_table(value, size):
    """Raise BadItem unless a value is a row of so many numbers of sales."""
    if not is_row(value, size):
        raise BadItem(None)
    want_counts(value, size)


class Line:
    """A channel of a wire: what it was told, has and sold, and what the house has heard of that."""

    def __init__(self, name, table):
        self.name = name
        self.told = (tuple(table),)
        self.has = 0
        self.acknowledged = 0
        self.sales = (0,) * len(table)
        self.heard = (0,) * len(table)
        self.letters = ()

    def state(self):
        """The name and all that is known of the channel."""
        return (self.name, (self.told, self.has, self.acknowledged, self.sales, self.heard, self.letters))


def made_lines(tables, size):
    """The channels of pairs (name, table), with tables of so many nights."""
    want_sequence(tables)
    want_right([is_row(pair, 2) for pair in tables], MOST_CHANNELS)
    lines = []
    for index, (name, table) in enumerate(tables):
        if not is_name(name):
            raise BadItem(index)
        if name in [line.name for line in lines]:
            raise Taken(name)
        want_table(table, size)
        lines.append(Line(name, table))
    return tuple(lines)


def with_sales(row, span, many):
    """A row by nights with so many sales of a span more."""
    return tuple([sold + many if has_night(span, night) else sold for night, sold in enumerate(row)])


class Wire:
    """A house and its channels, tables on their way to these, and letters on their way back."""

    def __init__(self, rooms, tables):
        want_counts(rooms, MOST_NIGHTS)
        self.rooms = tuple(rooms)
        self.own = (0,) * len(rooms)
        self.lines = made_lines(tables, len(rooms))

    def __eq__(self, other):
        return isinstance(other, Wire) and self.state() == other.state()

    @property
    def names(self):
        """The names of the channels in the order in which they were passed."""
        return tuple([line.name for line in self.lines])

    def state(self):
        """The rooms, the own sales by nights, and all that is known of each channel."""
        return (self.rooms, self.own, tuple([line.state() for line in self.lines]))

    def line(self, name):
        """The channel of a name."""
        for line in self.lines:
            if line.name == name:
                return line
        raise Unknown(name)

    def tell(self, name, table):
        """Send a table to a channel; returns its number."""
        line = self.line(name)
        want_table(table, len(self.rooms))
        line.told = line.told + (tuple(table),)
        return len(line.told) - 1

    def arrive(self, name):
        """Let the next table arrive at a channel, which tells so; returns its number."""
        line = self.line(name)
        if line.has + 1 == len(line.told):
            raise Refused("nothing", None)
        line.has += 1
        line.letters = line.letters + (("ack", line.has),)
        return line.has

    def sell(self, name, span):
        """Let a channel sell a span, which it tells."""
        line = self.line(name)
        table = line.told[line.has]
        for night in range(span[0], span[1]):
            if line.sales[night] >= table[night]:
                raise Refused("limit", night)
        line.sales = with_sales(line.sales, span, 1)
        line.letters = line.letters + (("sale", tuple(span)),)

    def hear(self, name):
        """Let the house hear the next letter of a channel; returns it."""
        line = self.line(name)
        if len(line.letters) == 0:
            raise Refused("nothing", None)
        word, what = line.letters[0]
        line.letters = line.letters[1:]
        if word == "ack":
            line.acknowledged = what
        else:
            line.heard = with_sales(line.heard, what, 1)
        return (word, what)

    def sell_own(self, span, many=1):
        """Let the house sell a span itself, so many times."""
        want_number(many, 1, MOST_SALES)
        self.own = with_sales(self.own, span, many)

    def on_the_way(self, name):
        """How many tables, and how many letters, are on their way."""
        line = self.line(name)
        return (len(line.told) - 1 - line.has, len(line.letters))
