"""The book of standing limits: with it a house knows what its channels can have sold at most."""

from keptnights.checks import is_row, is_whole
from keptnights.errors import Refused
from keptnights.wires import want_table


def greatest_by(rows):
    """By nights, the greatest number of some rows."""
    return tuple([max([row[night] for row in rows]) for night in range(len(rows[0]))])


def standing(wire, name):
    """By nights, what a channel can sell at most, by what the house has heard."""
    line = wire.line(name)
    return greatest_by((line.heard,) + line.told[line.acknowledged:])


def reachable(wire, name):
    """By nights, what a channel can sell at most, as it truly stands."""
    line = wire.line(name)
    return greatest_by((line.sales,) + line.told[line.has:])


def total_rows(wire, rows):
    """By nights, the own sales and the sum of some rows."""
    return tuple([sold + sum([row[night] for row in rows]) for night, sold in enumerate(wire.own)])


def standing_rows(wire):
    """The standing limits of all channels."""
    return [standing(wire, name) for name in wire.names]


def book_of(wire):
    """The pairs (name, standing) of all channels."""
    return tuple([(name, standing(wire, name)) for name in wire.names])


def first_over_rooms(wire, totals):
    """The first night with a total above the rooms, or None."""
    for night, many in enumerate(wire.rooms):
        if totals[night] > many:
            return night
    return None


def open_night(wire):
    """The first night at which the book is open, None if it closes."""
    return first_over_rooms(wire, total_rows(wire, standing_rows(wire)))


def breakable_night(wire):
    """The first night that can be oversold from the true state, or None."""
    return first_over_rooms(wire, total_rows(wire, [reachable(wire, name) for name in wire.names]))


def sold_total(wire):
    """By nights, all that is sold."""
    return total_rows(wire, [wire.line(name).sales for name in wire.names])


def is_oversold(wire):
    """Whether more than the rooms is sold at some night."""
    return first_over_rooms(wire, sold_total(wire)) is not None


def spare_row(wire):
    """By nights, the rooms less the own sales and all standing limits."""
    totals = total_rows(wire, standing_rows(wire))
    return tuple([many - total for many, total in zip(wire.rooms, totals)])


def told_open(wire, name, table):
    """The first night at which the book would be open if a table were told, or None."""
    wire.line(name)
    want_table(table, len(wire.rooms))
    rows = []
    for other in wire.names:
        row = standing(wire, other)
        rows.append(greatest_by([row, table]) if other == name else row)
    return first_over_rooms(wire, total_rows(wire, rows))


def tell_safely(wire, name, table):
    """Tell a table unless the book would be open; returns its number."""
    night = told_open(wire, name, table)
    if night is not None:
        raise Refused("rooms", night)
    return wire.tell(name, table)


def sell_safely(wire, span):
    """Sell a span for the house if each of its nights has a spare room."""
    spare = spare_row(wire)
    for night in range(span[0], span[1]):
        if spare[night] <= 0:
            raise Refused("rooms", night)
    wire.sell_own(span)


def widest_table(wire, name):
    """The greatest table that can be told safely, None if the book is open."""
    row = standing(wire, name)
    if open_night(wire) is not None:
        return None
    return tuple([limit + more for limit, more in zip(row, spare_row(wire))])


def is_entry(wire, name, value):
    """Whether a value is a pair of a name and a row that is nowhere below the standing limits."""
    if not is_row(value, 2) or value[0] != name or not is_row(value[1], len(wire.rooms)):
        return False
    return all([is_whole(item) and item >= least for item, least in zip(value[1], standing(wire, name))])


def is_book(wire, book):
    """Whether any value has a row for each channel, in order, that is nowhere below the standing limits."""
    names = wire.names
    return is_row(book, len(names)) and all([is_entry(wire, name, pair) for name, pair in zip(names, book)])


def book_shows(wire, book):
    """Whether a value is such a book, and closes."""
    if not is_book(wire, book):
        return False
    return first_over_rooms(wire, total_rows(wire, [row for _, row in book])) is None
