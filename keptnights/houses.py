"""Houses: what is sold is sold only if the plan can still be kept."""

from keptnights.checks import want_name, want_span
from keptnights.errors import Refused, Taken, Unknown
from keptnights.plans import Plan, changed_plan
from keptnights.verdicts import verdict


def names_in(plan):
    """The names of the singles, groups and channels of a plan."""
    return names_of_stays(plan) + tuple([channel.name for channel in plan.channels])


def names_of_stays(plan):
    """The names of the singles and the groups of a plan."""
    return names_of_singles(plan) + tuple([group.name for group in plan.groups])


def names_of_singles(plan):
    """The names of the singles of a plan."""
    return tuple([name for name, _, _ in plan.singles])


def names_moved(plan, found):
    """The names of the singles that a verdict moves."""
    names = names_of_singles(plan)
    return tuple([names[index] for index in found.moved])


def with_single(plan, name, span, cost):
    """A plan with a single stay more."""
    return changed_plan(plan, singles=plan.singles + ((name, span, cost),))


def new_name(names):
    """A name that is not among some names."""
    number = 0
    while f"new{number}" in names:
        number += 1
    return f"new{number}"


def all_but(things, name):
    """The groups or channels that have another name."""
    return tuple([thing for thing in things if thing.name != name])


class House:
    """A house with a plan that can always be kept."""

    def __init__(self, rooms, annex):
        self.present = Plan(rooms, annex, ())

    def __contains__(self, x):
        return x in names_in(self.present)

    @property
    def plan(self):
        """The plan of the house."""
        return self.present

    @property
    def names(self):
        """The names of singles, groups and channels."""
        return names_in(self.present)

    def verdict(self):
        """The verdict about the plan."""
        return verdict(self.present)

    def moved(self):
        """The names of the singles that the verdict moves."""
        return names_moved(self.present, verdict(self.present))

    def cost(self):
        """What moving these costs."""
        return verdict(self.present).cost

    def change_to(self, plan):
        """Take another plan if it can be kept; the names of the singles that move then."""
        found = verdict(plan)
        if found.word == "cut":
            raise Refused("cut", found.plus[0])
        self.present = plan
        return names_moved(plan, found)

    def sell(self, name, span, cost=None):
        """Sell a single stay."""
        want_name(name)
        if name in self:
            raise Taken(name)
        want_span(span)
        return self.change_to(with_single(self.present, name, span, cost))

    def bring(self, group):
        """Take a group."""
        if group.name in self:
            raise Taken(group.name)
        return self.change_to(changed_plan(self.present, groups=self.present.groups + (group,)))

    def open_channel(self, channel):
        """Take a channel, in the place of the one of its name if there is one."""
        if channel.name in names_of_stays(self.present):
            raise Taken(channel.name)
        others = all_but(self.present.channels, channel.name)
        return self.change_to(changed_plan(self.present, channels=others + (channel,)))

    def keep_up(self, span):
        """Keep a room of the house for upkeep."""
        want_span(span)
        return self.change_to(changed_plan(self.present, upkeep=self.present.upkeep + (span,)))

    def lend(self, span):
        """Give a room of the annex away for a stay."""
        want_span(span)
        return self.change_to(changed_plan(self.present, annex_stays=self.present.annex_stays + (span,)))

    def cancel(self, name):
        """Take away what has a name."""
        if name not in self:
            raise Unknown(name)
        plan = self.present
        singles = [single for single in plan.singles if single[0] != name]
        return self.change_to(changed_plan(plan, singles, all_but(plan.groups, name), all_but(plan.channels, name)))

    def could_sell(self, span, cost=None):
        """Whether a single stay more could be sold."""
        want_span(span)
        plan = with_single(self.present, new_name(self.names), span, cost)
        return verdict(plan).word == "kept"
