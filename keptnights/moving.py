"""Moving: which stays move to where rooms are free, so that what is needed is met at the least cost."""

from keptnights.checks import are_different_below, as_tuples
from keptnights.networks import covers_of
from keptnights.papers import flags_of, is_cut, is_paper, least_choice


class Moves:
    """The stays that move at the least cost with a paper, or a cut; the other fields are None."""

    def __init__(self, done, moved, cost, ups, downs, plus, minus):
        self.done = done
        self.moved = as_tuples(moved)
        self.cost = cost
        self.ups = as_tuples(ups)
        self.downs = as_tuples(downs)
        self.plus = as_tuples(plus)
        self.minus = as_tuples(minus)


def movable(stays):
    """The indexes of the stays that can move."""
    return tuple([index for index, stay in enumerate(stays) if stay[1] is not None])


def spans_that_move(stays):
    """The spans of the stays that can move."""
    return [span for span, cost in stays if cost is not None]


def costs_that_move(stays):
    """The costs of the stays that can move."""
    return [cost for _, cost in stays if cost is not None]


def least_moves(needs, free, stays):
    """The stays that move at the least cost, with a paper, or a cut."""
    found = least_choice(needs, free, spans_that_move(stays), costs_that_move(stays))
    if found.chosen is None:
        return Moves(False, None, None, None, None, found.plus, found.minus)
    able = movable(stays)
    moved = [able[place] for place in found.chosen]
    return Moves(True, moved, found.cost, found.ups, found.downs, None, None)


def is_least_moves(needs, free, stays, moved, ups, downs):
    """Whether stays can move, are within the bounds, and the prices are a paper for them."""
    if not are_different_below(moved, len(stays)):
        return False
    places = {index: place for place, index in enumerate(movable(stays))}
    if not all([index in places for index in moved]):
        return False
    chosen = sorted([places[index] for index in moved])
    return is_paper(needs, free, spans_that_move(stays), costs_that_move(stays), chosen, ups, downs)


def is_move_cut(needs, free, stays, plus, minus):
    """Whether two rows of nights are a cut for the stays that can move."""
    return is_cut(needs, free, spans_that_move(stays), plus, minus)


def moved_covers(size, stays, moved):
    """For each night below size the number of the moved stays that have it."""
    return covers_of(size, [span for span, _ in stays], flags_of(len(stays), moved))


def cost_of(stays, moved):
    """What the moved stays cost together."""
    return sum([stays[index][1] for index in moved])


def needed_more(needs, stays, moved):
    """The first night with fewer moved stays than it needs, or None."""
    covers = moved_covers(len(needs), stays, moved)
    for night, need in enumerate(needs):
        if covers[night] < need:
            return night
    return None


def moved_too_many(free, stays, moved):
    """The first night with more moved stays than the free number, or None."""
    covers = moved_covers(len(free), stays, moved)
    for night, many in enumerate(free):
        if covers[night] > many:
            return night
    return None
