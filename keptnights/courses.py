"""Courses: who comes and stays on, and what the channels sell, within the bounds of a plan."""

from keptnights.arrivals import given_rooms
from keptnights.channels import is_sale
from keptnights.checks import as_tuples, is_row
from keptnights.groups import is_coming, stays_of
from keptnights.loads import load, peak


class Course:
    """For each group pairs (index, nights more), and for each channel the spans that it sells."""

    def __init__(self, comers, sales):
        self.comers = as_tuples(comers)
        self.sales = as_tuples(sales)

    def __eq__(self, other):
        return isinstance(other, Course) and self.comers == other.comers and self.sales == other.sales


def is_course(plan, course):
    """Whether a course is within the bounds of a plan."""
    if not is_row(course.comers, len(plan.groups)) or not is_row(course.sales, len(plan.channels)):
        return False
    if not all([is_coming(group, pairs) for group, pairs in zip(plan.groups, course.comers)]):
        return False
    return all([is_sale(channel, spans) for channel, spans in zip(plan.channels, course.sales)])


def single_spans(plan, indexes):
    """The spans of the singles with these indexes, in the order of the singles."""
    return [single[1] for index, single in enumerate(plan.singles) if index in indexes]


def house_spans(plan, course, moved):
    """The spans of the house: singles that do not move, upkeep, those who come, and sales."""
    spans = single_spans(plan, [index for index in range(len(plan.singles)) if index not in moved])
    spans.extend(plan.upkeep)
    for group, pairs in zip(plan.groups, course.comers):
        spans.extend(stays_of(group, pairs))
    for sold in course.sales:
        spans.extend(sold)
    return tuple(spans)


def annex_spans(plan, moved):
    """The spans of the annex: those that were there already, and the moved singles."""
    return plan.annex_stays + tuple(single_spans(plan, moved))


def guests_at(plan, course, moved, night):
    """The load of the house at a night."""
    return load(house_spans(plan, course, moved), night)


def worst_course(plan, night):
    """A course with the greatest load of a night that there can be."""
    comers = [group.worst_comers(night) for group in plan.groups]
    return Course(comers, [channel.worst_sales(night) for channel in plan.channels])


def quiet_course(plan):
    """The course in which as few come as can be, nobody stays on and nothing is sold."""
    comers = [[(index, 0) for index in range(group.least)] for group in plan.groups]
    return Course(comers, [() for _ in plan.channels])


def course_rooms(plan, course, moved, choice=0):
    """The rooms that the spans of the house get on arrival, None if one finds no free room."""
    return given_rooms((), house_spans(plan, course, moved), plan.rooms, choice)


def course_keeps(plan, course, moved):
    """Whether no load of the house or of the annex is above its rooms."""
    if peak(house_spans(plan, course, moved))[0] > plan.rooms:
        return False
    return peak(annex_spans(plan, moved))[0] <= plan.annex
