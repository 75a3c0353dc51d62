"""Deeds of several tests: random ones, what they make of a plan, and values that are none."""

from keptnights.channels import Channel
from keptnights.groups import Group
from keptnights.plans import Plan
from tests.support import NO_NAMES, NO_SEQUENCES, NO_SPANS, random_span
from tests.trials import random_channel, random_group

NAMES = ("ann", "bob", "cy", "di", "ed")


def random_deed(random, nights=5):
    """A deed of any word; few names, so that many of them are taken."""
    name, span = random.choice(NAMES), random_span(random, nights, 3)
    word = random.choice(("sell", "sell", "sell", "cancel", "bring", "open", "upkeep", "lend"))
    return {"sell": ("sell", name, span, random.choice((None, 0, 3, 9))), "cancel": ("cancel", name),
            "bring": ("bring", random_group(random, name, nights - 2)), "open": ("open", random_channel(random, name, nights)),
            "upkeep": ("upkeep", span), "lend": ("lend", span)}[word]


def names_of(plan):
    return [single[0] for single in plan.singles] + [one.name for one in plan.groups] + [one.name for one in plan.channels]


def plan_behind(plan, deed):
    """The plan that a deed makes of a plan, or a text that tells why there is none."""
    word, what = deed[:2]
    singles, groups, channels = list(plan.singles), list(plan.groups), list(plan.channels)
    upkeep, lent = list(plan.upkeep), list(plan.annex_stays)
    if word == "cancel":
        if what not in names_of(plan):
            return "unknown"
        singles = [single for single in singles if single[0] != what]
        groups, channels = [[one for one in row if one.name != what] for row in (groups, channels)]
    elif word == "sell":
        if what in names_of(plan):
            return "taken"
        singles.append((what, deed[2], deed[3]))
    elif word == "bring":
        if what.name in names_of(plan):
            return "taken"
        groups.append(what)
    elif word == "open":
        if what.name in [single[0] for single in singles] + [one.name for one in groups]:
            return "taken"
        channels = [one for one in channels if one.name != what.name] + [what]
    else:
        (upkeep if word == "upkeep" else lent).append(what)
    return Plan(plan.rooms, plan.annex, singles, groups, channels, upkeep, lent)


def wrong_deeds():
    """Values that are no deeds."""
    group, channel = Group("g", [(0, 1)], 0, 1), Channel("c", [((0, 1), 1)])
    right = [("sell", "ann", (0, 1), None), ("cancel", "ann"), ("bring", group), ("open", channel), ("upkeep", (0, 1)),
             ("lend", (0, 1))]
    found = [deed[:-1] for deed in right] + [deed + (None,) for deed in right] + [deed[1:] for deed in right]
    found += [("sell", name, (0, 1), None) for name in NO_NAMES] + [("cancel", name) for name in NO_NAMES]
    found += [("sell", "ann", span, 5) for span in NO_SPANS]
    found += [(word, span) for word in ("upkeep", "lend") for span in NO_SPANS]
    found += [("sell", "ann", (0, 1), cost) for cost in (-1, 10000, True, "5", 1.0, [5])]
    found += [(word, thing) for word, other in (("bring", channel), ("open", group)) for thing in (other, None, "g", ("g", (), 0, 0))]
    found += [("undo",), ("redo",), ("buy", "ann"), ("Sell", "ann", (0, 1), None), ("", "ann"), (["cancel"], "ann"), (None, "ann")]
    return found + list(NO_SEQUENCES) + [(), [], [["cancel", "ann"]], group, channel]
