"""Deeds: what changes a house, told as tuples."""

from keptnights.channels import Channel
from keptnights.checks import as_tuples, is_name, is_row, is_sequence, is_span
from keptnights.errors import BadEvent
from keptnights.groups import Group
from keptnights.plans import copied_channel, copied_group, is_single


def is_sale_of_single(value):
    """Whether the parts of a deed are those of a single stay."""
    return is_row(value, 4) and is_single(value[1:])


def is_of_name(value):
    """Whether a deed has a name, and nothing else."""
    return is_row(value, 2) and is_name(value[1])


def is_of_group(value):
    """Whether a deed has a group, and nothing else."""
    return is_row(value, 2) and isinstance(value[1], Group)


def is_of_channel(value):
    """Whether a deed has a channel, and nothing else."""
    return is_row(value, 2) and isinstance(value[1], Channel)


def is_of_span(value):
    """Whether a deed has a span, and nothing else."""
    return is_row(value, 2) and is_span(value[1])


FORMS = {
    "sell": is_sale_of_single,
    "cancel": is_of_name,
    "bring": is_of_group,
    "open": is_of_channel,
    "upkeep": is_of_span,
    "lend": is_of_span,
}


def is_deed(value):
    """Whether any value is a deed."""
    if not is_sequence(value) or len(value) == 0:
        return False
    word = value[0]
    if not isinstance(word, str) or word not in FORMS:
        return False
    is_right = FORMS[word]
    return is_right(value)


def copied_deed(value):
    """A deed as tuples, with a copy of its group or channel; BadEvent for any other value."""
    if not is_deed(value):
        raise BadEvent(value)
    if value[0] == "bring":
        return ("bring", copied_group(value[1]))
    if value[0] == "open":
        return ("open", copied_channel(value[1]))
    return as_tuples(value)


def do_deed(house, deed):
    """Do a deed in a house; the names of the singles that move then."""
    told = copied_deed(deed)
    word = told[0]
    what = told[1]
    if word == "sell":
        return house.sell(what, told[2], told[3])
    if word == "cancel":
        return house.cancel(what)
    if word == "bring":
        return house.bring(what)
    if word == "open":
        return house.open_channel(what)
    return house.keep_up(what) if word == "upkeep" else house.lend(what)
