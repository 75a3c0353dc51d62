"""Desks: a house is changed and asked by commands."""

from keptnights.checks import is_span
from keptnights.deeds import is_deed
from keptnights.errors import BadEvent, KeptError
from keptnights.histories import History
from keptnights.lines import read_channel, read_group, read_pair, read_single, span_text
from keptnights.notes import format_plan
from keptnights.plans import is_cost


def names_text(names):
    """Names as an answer, a dash for none."""
    return "-" if len(names) == 0 else " ".join(names)


def deed_text(deed):
    """The word of a deed, and the name or the span of what it is about."""
    word = deed[0]
    what = deed[1]
    if word in ("bring", "open"):
        return f"{word} {what.name}"
    return f"{word} {span_text(what)}" if word in ("upkeep", "lend") else f"{word} {what}"


def answer_undo(history):
    """Take the last deed back."""
    return deed_text(history.undo())


def answer_redo(history):
    """Do the deed again that was taken back last."""
    return deed_text(history.redo())


def answer_note(history):
    """The text of the plan."""
    return format_plan(history.house.plan)


def answer_moved(history):
    """The names of those who move."""
    return names_text(history.house.moved())


SINGLE_WORDS = {"undo": answer_undo, "redo": answer_redo, "note": answer_note, "moved": answer_moved}


def read_sale(words):
    """The deed that sells a single stay, as far as it is written so."""
    single = read_single(words)
    return None if single is None else ("sell",) + single


def read_cancel(words):
    """The deed that takes a name away."""
    return ("cancel",) + tuple(words)


def read_bring(words):
    """The deed that brings a group."""
    return ("bring", read_group(words))


def read_open(words):
    """The deed that opens a channel."""
    return ("open", read_channel(words))


def read_upkeep(words):
    """The deed that keeps a room for upkeep."""
    return ("upkeep",) + tuple([read_pair(word) for word in words])


def read_lend(words):
    """The deed that gives a room of the annex away."""
    return ("lend",) + tuple([read_pair(word) for word in words])


DEEDS = {
    "sell": read_sale,
    "cancel": read_cancel,
    "bring": read_bring,
    "open": read_open,
    "upkeep": read_upkeep,
    "lend": read_lend,
}


def could_text(history, words):
    """Whether a stay of a span and a cost could be sold, None if it is not written so."""
    # A question is written like a single stay, but for its name.
    single = read_single(["any"] + words)
    if single is None or not is_span(single[1]) or not is_cost(single[2]):
        return None
    return "yes" if history.house.could_sell(single[1], single[2]) else "no"


def answer_to(history, words):
    """The answer to a command of some words, None if it is none."""
    word = words[0]
    if word == "could":
        return could_text(history, words[1:])
    if word in SINGLE_WORDS and len(words) == 1:
        answer = SINGLE_WORDS[word]
        return answer(history)
    if word not in DEEDS:
        return None
    read = DEEDS[word]
    deed = read(words[1:])
    return names_text(history.do(deed)) if is_deed(deed) else None


class Desk:
    """A house with its history, and all commands that were done."""

    def __init__(self, rooms, annex):
        self.history = History(rooms, annex)
        self.commands = ()

    @property
    def present_house(self):
        """The house."""
        return self.history.house

    @property
    def log(self):
        """The commands that raised no error."""
        return self.commands

    def execute(self, command):
        """Do a command, and return its answer."""
        if not isinstance(command, str):
            raise BadEvent(command)
        answer = answer_to(self.history, command.split(" "))
        if answer is None:
            raise BadEvent(command)
        self.commands = self.commands + (command,)
        return answer

    def answers_to(self, commands):
        """The answers of commands that are done one after the other."""
        return tuple([self.execute(command) for command in commands])

    def execute_all(self, commands):
        """Do commands one after the other, or none of them if one raises an error; the answers."""
        history = self.history.state()
        done = self.commands
        try:
            return self.answers_to(commands)
        except KeptError:
            self.history.give_back(history)
            self.commands = done
            raise
