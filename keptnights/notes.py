"""Notes: plans as texts, and the plans of texts that are written exactly so."""

from keptnights.errors import BadNote, KeptError
from keptnights.lines import read_channel, read_group, read_number, read_pair, read_single, span_text, text_of
from keptnights.plans import Plan, changed_plan
from keptnights.whatif import with_rooms

# In a text the lines stand in this order: one for the rooms, one for the annex, any number of the others.
RANKS = {"rooms": 0, "annex": 1, "single": 2, "group": 3, "channel": 4, "upkeep": 5, "lent": 6}


def single_line(single):
    """The line of a single stay."""
    name, span, cost = single
    return f"single {name} {span_text(span)} " + ("-" if cost is None else str(cost))


def group_line(group):
    """The line of a group."""
    numbers = [group.least, group.most, group.late_guests, group.late_nights]
    words = ["group", group.name] + [str(number) for number in numbers]
    return " ".join(words + [span_text(span) for span in group.spans])


def channel_line(channel):
    """The line of a channel."""
    words = ["channel", channel.name, str(channel.least_stay)]
    return " ".join(words + [f"{span_text(span)}={number}" for span, number in channel.counts])


def format_plan(plan):
    """The text of a plan."""
    lines = [f"rooms {plan.rooms}", f"annex {plan.annex}"]
    lines.extend([single_line(single) for single in plan.singles])
    lines.extend([group_line(group) for group in plan.groups])
    lines.extend([channel_line(channel) for channel in plan.channels])
    lines.extend([f"upkeep {span_text(span)}" for span in plan.upkeep])
    lines.extend([f"lent {span_text(span)}" for span in plan.annex_stays])
    return text_of(lines)


def add_rooms(plan, words):
    """A plan with the rooms of a line."""
    return with_rooms(plan, read_number(words[0]), plan.annex) if len(words) == 1 else None


def add_annex(plan, words):
    """A plan with the annex of a line."""
    return with_rooms(plan, plan.rooms, read_number(words[0])) if len(words) == 1 else None


def add_single(plan, words):
    """A plan with the single stay of a line more."""
    single = read_single(words)
    return None if single is None else changed_plan(plan, singles=plan.singles + (single,))


def add_group(plan, words):
    """A plan with the group of a line more."""
    group = read_group(words)
    return None if group is None else changed_plan(plan, groups=plan.groups + (group,))


def add_channel(plan, words):
    """A plan with the channel of a line more."""
    channel = read_channel(words)
    return None if channel is None else changed_plan(plan, channels=plan.channels + (channel,))


def add_upkeep(plan, words):
    """A plan with the upkeep of a line more."""
    return changed_plan(plan, upkeep=plan.upkeep + (read_pair(words[0]),)) if len(words) == 1 else None


def add_lent(plan, words):
    """A plan with the stay in the annex of a line more."""
    return changed_plan(plan, annex_stays=plan.annex_stays + (read_pair(words[0]),)) if len(words) == 1 else None


ADDERS = {
    "rooms": add_rooms,
    "annex": add_annex,
    "single": add_single,
    "group": add_group,
    "channel": add_channel,
    "upkeep": add_upkeep,
    "lent": add_lent,
}


def may_follow(place, rank, last):
    """Whether a line of a rank may stand at a place, behind one of the last rank."""
    return rank == place if place < 2 else rank >= max(2, last)


def plan_with_line(plan, words):
    """A plan with what a line tells, None if there is no such plan."""
    add = ADDERS[words[0]]
    try:
        return add(plan, words[1:])
    except KeptError:
        return None


def parse_plan(text):
    """The plan of a text that is written exactly so."""
    lines = text.split("\n")
    rest = lines.pop()
    plan = Plan(0, 0, ())
    last = 0
    for place, line in enumerate(lines):
        words = line.split(" ")
        rank = RANKS.get(words[0])
        if rank is None or not may_follow(place, rank, last):
            raise BadNote(place + 1)
        plan = plan_with_line(plan, words)
        if plan is None:
            raise BadNote(place + 1)
        last = rank
    if rest != "" or len(lines) < 2:
        raise BadNote(len(lines) + 1)
    return plan
