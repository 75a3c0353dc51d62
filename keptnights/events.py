"""Events: what desks tell of a guest, each with the minute and the desk as its stamp."""

from keptnights.checks import as_tuples, is_between, is_name, is_row, is_sequence, is_span
from keptnights.errors import BadEvent

MOST_MINUTE = 99999999
MOST_CENTS = 9999999
MOST_PAYERS = 8
STATES = ("booked", "cancelled", "absent", "here")


def is_stamp(value):
    """Whether a value is a pair (minute, name of a desk)."""
    return is_row(value, 2) and is_between(value[0], 0, MOST_MINUTE) and is_name(value[1])


def is_share(value):
    """Whether a value is a pair (payer, weight)."""
    return is_row(value, 2) and is_name(value[0]) and is_between(value[1], 0, MOST_CENTS)


def are_of_stay(parts):
    """Whether the parts behind the word are a span and the name of an offer."""
    return len(parts) == 2 and is_span(parts[0]) and is_name(parts[1])


def are_of_state(parts):
    """Whether the parts behind the word are a state."""
    return len(parts) == 1 and parts[0] in STATES


def are_of_left(parts):
    """Whether the parts behind the word are a morning."""
    return len(parts) == 1 and is_between(parts[0], 0, MOST_MINUTE)


def are_of_grant(parts):
    """Whether the parts behind the word are a percent."""
    return len(parts) == 1 and is_between(parts[0], 0, 100)


def are_of_sum(parts):
    """Whether the parts behind the word are a name and cents other than 0."""
    return len(parts) == 2 and is_name(parts[0]) and is_between(parts[1], -MOST_CENTS, MOST_CENTS) and parts[1] != 0


def are_of_void(parts):
    """Whether the parts behind the word are a stamp."""
    return len(parts) == 1 and is_stamp(parts[0])


def are_of_shares(parts):
    """Whether the parts behind the word are pairs of different payers and weights, not all of them 0."""
    if len(parts) != 1 or not is_sequence(parts[0]) or not 1 <= len(parts[0]) <= MOST_PAYERS:
        return False
    pairs = parts[0]
    if not all([is_share(pair) for pair in pairs]) or sum([weight for _, weight in pairs]) == 0:
        return False
    return len({payer: True for payer, _ in pairs}) == len(pairs)


FORMS = {
    "stay": are_of_stay,
    "state": are_of_state,
    "left": are_of_left,
    "grant": are_of_grant,
    "charge": are_of_sum,
    "paid": are_of_sum,
    "void": are_of_void,
    "shares": are_of_shares,
}


def is_event(value):
    """Whether any value is an event."""
    if not is_sequence(value) or len(value) < 2 or not is_stamp(value[0]):
        return False
    word = value[1]
    if not isinstance(word, str) or word not in FORMS:
        return False
    are_right = FORMS[word]
    return are_right(value[2:])


def want_event(value):
    """An event as tuples, BadEvent for any other value."""
    if not is_event(value):
        raise BadEvent(value)
    return as_tuples(value)


def minute_of(event):
    """The minute at which an event was told."""
    return event[0][0]


def last_told(events, word):
    """The last event of a word in a sequence, or None."""
    found = None
    for event in events:
        if event[1] == word:
            found = event
    return as_tuples(found)


def voided(events):
    """The stamps that the void events name, one for each of them."""
    return tuple([as_tuples(event[2]) for event in events if event[1] == "void"])


def standing_events(events, word):
    """The events of a word whose stamp no event voids."""
    gone = {stamp: True for stamp in voided(events)}
    return tuple([as_tuples(event) for event in events if event[1] == word and as_tuples(event[0]) not in gone])
