"""Verdicts: whether a plan is kept in every course, and what shows that it is or that it is not."""

from keptnights.checks import as_tuples, is_sequence, is_whole
from keptnights.courses import quiet_course, worst_course
from keptnights.moving import cost_of, is_least_moves, is_move_cut, least_moves, moved_covers


class Verdict:
    """The singles that move at the least cost with a paper, or a cut; the other fields are None.

    Ups and downs are rows by the nights of the plan; plus and minus tell its nights themselves.
    """

    def __init__(self, word, moved, cost, ups, downs, plus, minus):
        self.word = word
        self.moved = as_tuples(moved)
        self.cost = cost
        self.ups = as_tuples(ups)
        self.downs = as_tuples(downs)
        self.plus = as_tuples(plus)
        self.minus = as_tuples(minus)


def nights_at(plan, places):
    """The nights of a plan at these places of its rows."""
    nights = plan.nights()
    return [nights[place] for place in places]


def places_at(plan, nights):
    """The places of nights in the rows of a plan, None for what is no row of whole numbers."""
    if plan.span is None or not is_sequence(nights) or not all([is_whole(night) for night in nights]):
        return None
    return [night - plan.span[0] for night in nights]


def verdict(plan):
    """Whether a plan can be kept, and what shows it."""
    found = least_moves(plan.needs(), plan.free(), plan.stays())
    if found.done:
        return Verdict("kept", found.moved, found.cost, found.ups, found.downs, None, None)
    return Verdict("cut", None, None, None, None, nights_at(plan, found.plus), nights_at(plan, found.minus))


def is_shown(plan, answer):
    """Whether the fields of a verdict show its word, and for a kept plan its cost."""
    needs = plan.needs()
    free = plan.free()
    stays = plan.stays()
    if answer.word == "cut":
        return is_move_cut(needs, free, stays, places_at(plan, answer.plus), places_at(plan, answer.minus))
    if answer.word != "kept" or not is_whole(answer.cost):
        return False
    if not is_least_moves(needs, free, stays, answer.moved, answer.ups, answer.downs):
        return False
    return cost_of(stays, answer.moved) == answer.cost


def covers_by(plan, moved):
    """By the nights of a plan the number of the moved singles that have the night."""
    return moved_covers(len(plan.nights()), plan.stays(), moved)


def first_breach(plan, moved):
    """The triple (place, night, lacking rooms) of the first night that breaks a plan, None if it is kept."""
    for night, cover in zip(plan.nights(), covers_by(plan, moved)):
        lacking = plan.worst(night) - cover - plan.rooms
        if lacking > 0:
            return ("house", night, lacking)
        lacking = plan.annex_load(night) + cover - plan.annex
        if lacking > 0:
            return ("annex", night, lacking)
    return None


def is_kept(plan, moved):
    """Whether a plan is kept in every course with some singles moved."""
    return first_breach(plan, moved) is None


def breaking_course(plan, moved):
    """A course that breaks a plan at the night of its first breach, None if it is kept."""
    breach = first_breach(plan, moved)
    if breach is None:
        return None
    # What is in the annex is the same in every course.
    return worst_course(plan, breach[1]) if breach[0] == "house" else quiet_course(plan)


def least_rooms_for(plan):
    """The greatest number of rooms that a night of a plan can need if nobody moves."""
    return max([plan.worst(night) for night in plan.nights()] + [0])


def slack_nights(plan, moved):
    """By the nights of a plan, how many rooms of the house are left in the worst course."""
    covers = covers_by(plan, moved)
    return tuple([plan.rooms + cover - plan.worst(night) for night, cover in zip(plan.nights(), covers)])


def can_still_sell(plan, moved, span):
    """Whether a plan is kept, and with one stay more for a span as well."""
    if not is_kept(plan, moved):
        return False
    first = plan.span[0]
    return min(slack_nights(plan, moved)[span[0] - first:span[1] - first]) > 0
