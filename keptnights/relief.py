"""Relief: the houses of a chain take stays that another house has no room for."""

from keptnights.checks import as_tuples
from keptnights.errors import Taken, Unknown
from keptnights.moving import least_moves
from keptnights.plans import changed_plan, counted_from
from keptnights.spans import has_night, hull, nights_of


class Relief:
    """The singles that move to the other house at the least cost with a paper, or a cut; the others are None.

    Ups and downs are rows by the common nights of both plans; plus and minus tell nights themselves.
    """

    def __init__(self, moved, cost, ups, downs, plus, minus):
        self.moved = as_tuples(moved)
        self.cost = cost
        self.ups = as_tuples(ups)
        self.downs = as_tuples(downs)
        self.plus = as_tuples(plus)
        self.minus = as_tuples(minus)


def common_nights(one, other):
    """The nights from the first one of both plans to the last one."""
    spans = [plan.span for plan in (one, other) if plan.span is not None]
    return nights_of(hull(spans)) if len(spans) > 0 else ()


def worst_at(plan, night):
    """The worst count of any night; behind and ahead of a plan nobody is in the house."""
    return plan.worst(night) if plan.span is not None and has_night(plan.span, night) else 0


def needs_at(plan, nights):
    """By some nights, how many stays must leave a house at least."""
    return tuple([max(0, worst_at(plan, night) - plan.rooms) for night in nights])


def spare_at(plan, nights):
    """By some nights, how many stays more a house has rooms for."""
    return tuple([plan.rooms - worst_at(plan, night) for night in nights])


def relief_to(one, other):
    """The singles of one house that move to the other one so that both have enough rooms, or a cut."""
    nights = common_nights(one, other)
    stays = [(counted_from(span, nights[0]), cost) for _, span, cost in one.singles]
    found = least_moves(needs_at(one, nights), spare_at(other, nights), stays)
    if found.done:
        return Relief(found.moved, found.cost, found.ups, found.downs, None, None)
    plus = [nights[place] for place in found.plus]
    return Relief(None, None, None, None, plus, [nights[place] for place in found.minus])


class Chain:
    """Houses, each with a name and a plan."""

    def __init__(self):
        self.plans = {}

    @property
    def names(self):
        """The names of the houses, ascending."""
        return tuple(sorted(list(self.plans)))

    def add_house(self, name, plan):
        """Add a house."""
        if name in self.plans:
            raise Taken(name)
        self.plans[name] = changed_plan(plan)

    def plan_of(self, name):
        """The plan of a house."""
        if name not in self.plans:
            raise Unknown(name)
        return self.plans[name]

    def takers(self, span):
        """The names of the houses that have a room at all nights of a span, in every course."""
        nights = nights_of(span)
        return tuple([name for name in self.names if min(spare_at(self.plans[name], nights)) > 0])

    def reliefs(self, name):
        """The pairs (cost, other house) of the houses that can relieve one, ascending."""
        one = self.plan_of(name)
        costs = [(relief_to(one, self.plans[other]).cost, other) for other in self.names if other != name]
        return tuple(sorted([pair for pair in costs if pair[0] is not None]))

    def best_relief(self, name):
        """The triple (other house, moved, cost) of the cheapest relief of a house, or None."""
        found = self.reliefs(name)
        if len(found) == 0:
            return None
        cost, other = found[0]
        return (other, relief_to(self.plans[name], self.plans[other]).moved, cost)
