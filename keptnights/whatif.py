"""What if: how many rooms, guests or sales a plan can have so that it can be kept."""

from keptnights.channels import Channel
from keptnights.errors import Unknown
from keptnights.groups import Group
from keptnights.plans import MOST_ROOMS, Plan, changed_plan
from keptnights.verdicts import verdict


def is_good(plan):
    """Whether a plan can be kept."""
    return verdict(plan).word == "kept"


def least_right(is_right, most):
    """The least number from 0 to the most that is right, None without one; all behind a right one are right."""
    if not is_right(most):
        return None
    low = -1
    high = most
    while high - low > 1:
        middle = (low + high) // 2
        if is_right(middle):
            high = middle
        else:
            low = middle
    return high


def greatest_right(is_right, most):
    """The greatest number from 0 to the most that is right, None without one; all ahead of a right one are right."""
    def is_right_from_above(less):
        """Whether the most less a number is right."""
        return is_right(most - less)

    less = least_right(is_right_from_above, most)
    return None if less is None else most - less


def with_rooms(plan, rooms, annex):
    """A plan with other numbers of rooms."""
    return Plan(rooms, annex, plan.singles, plan.groups, plan.channels, plan.upkeep, plan.annex_stays)


def with_group(plan, name, group):
    """A plan with another group in the place of the one of a name."""
    return changed_plan(plan, groups=[group if one.name == name else one for one in plan.groups])


def with_channel(plan, name, channel):
    """A plan with another channel in the place of the one of a name."""
    return changed_plan(plan, channels=[channel if one.name == name else one for one in plan.channels])


def without_single(plan, index):
    """A plan without one of its singles."""
    return changed_plan(plan, singles=plan.singles[:index] + plan.singles[index + 1:])


def most_wanted(plan):
    """The greatest number of stays, of the house and of the annex, that a night can have."""
    return max([plan.worst(night) + plan.annex_load(night) for night in plan.nights()] + [0])


def least_house(plan):
    """The least number of rooms of the house with which a plan can be kept, or None."""
    def is_enough(rooms):
        """Whether so many rooms are enough."""
        return is_good(with_rooms(plan, rooms, plan.annex))

    return least_right(is_enough, MOST_ROOMS)


def least_annex(plan):
    """The least number of rooms of the annex with which a plan can be kept, or None."""
    def is_enough(annex):
        """Whether so many rooms are enough."""
        return is_good(with_rooms(plan, plan.rooms, annex))

    return least_right(is_enough, MOST_ROOMS)


def bounded(group, most):
    """A group of which so many come at most; at least and late no more than these."""
    least = min(group.least, most)
    return Group(group.name, group.spans, least, most, min(group.late_guests, most), group.late_nights)


def capped(channel, most):
    """A channel whose counts are at most so many."""
    counts = [(span, min(number, most)) for span, number in channel.counts]
    return Channel(channel.name, counts, channel.least_stay)


def one_named(things, name):
    """The group or the channel of a name."""
    for thing in things:
        if thing.name == name:
            return thing
    raise Unknown(name)


def greatest_most(plan, name):
    """The greatest number of guests of a group who can come if the plan is to be kept, or None."""
    group = one_named(plan.groups, name)

    def can_be(most):
        """Whether the plan can be kept if so many come at most."""
        return is_good(with_group(plan, name, bounded(group, most)))

    return greatest_right(can_be, len(group))


def greatest_cap(plan, name):
    """The greatest number up to which a channel can sell if the plan is to be kept, or None."""
    channel = one_named(plan.channels, name)

    def can_be(most):
        """Whether the plan can be kept if the counts are at most so many."""
        return is_good(with_channel(plan, name, capped(channel, most)))

    return greatest_right(can_be, max([number for _, number in channel.counts] + [0]))


def relieving_singles(plan):
    """The indexes of the singles without which alone a plan can be kept."""
    indexes = range(len(plan.singles))
    # A plan that can be kept can be kept with less sold, too.
    if is_good(plan):
        return tuple(indexes)
    return tuple([index for index in indexes if is_good(without_single(plan, index))])
