"""Texts of folios: a line for each event, by stamps."""

from keptnights.errors import BadNote
from keptnights.events import is_event
from keptnights.folios import MOST_EVENTS, Folio
from keptnights.lines import read_named, read_number, read_pair, read_signed, span_text, text_of


def parts_texts(event):
    """The words of what an event has behind its word."""
    word = event[1]
    if word == "stay":
        return [span_text(event[2]), event[3]]
    if word == "void":
        return [str(event[2][0]), event[2][1]]
    if word == "shares":
        return [f"{payer}={weight}" for payer, weight in event[2]]
    return [str(part) for part in event[2:]]


def format_folio(folio):
    """The text of a folio."""
    return text_of([" ".join([str(event[0][0]), event[0][1], event[1]] + parts_texts(event)) for event in folio.events])


def read_stay(words):
    """The span and the name of the offer."""
    return (read_pair(words[0]), words[1]) if len(words) == 2 else ()


def read_state(words):
    """The state."""
    return tuple(words)


def read_one(words):
    """The number of a morning or of a percent."""
    return tuple([read_number(word) for word in words])


def read_sum(words):
    """The name and the cents."""
    return (words[0], read_signed(words[1])) if len(words) == 2 else ()


def read_void(words):
    """The stamp."""
    return ((read_number(words[0]), words[1]),) if len(words) == 2 else ()


def read_shares(words):
    """The pairs of payers and weights."""
    return (tuple([read_named(word) for word in words]),)


READERS = {
    "stay": read_stay,
    "state": read_state,
    "left": read_one,
    "grant": read_one,
    "charge": read_sum,
    "paid": read_sum,
    "void": read_void,
    "shares": read_shares,
}


def event_of(line):
    """The event of a line, None if there is none that is written so."""
    words = line.split(" ")
    if len(words) < 3 or words[2] not in READERS:
        return None
    read = READERS[words[2]]
    event = ((read_number(words[0]), words[1]), words[2]) + read(words[3:])
    return event if is_event(event) else None


def parse_folio(text):
    """The folio of a text that is written exactly so."""
    lines = text.split("\n")
    rest = lines.pop()
    events = []
    for place, line in enumerate(lines):
        event = event_of(line)
        if event is None or place >= MOST_EVENTS:
            raise BadNote(place + 1)
        if place > 0 and event[0] <= events[-1][0]:
            raise BadNote(place + 1)
        events.append(event)
    if rest != "":
        raise BadNote(len(lines) + 1)
    return Folio(events)
