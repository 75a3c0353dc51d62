"""Lines: how numbers, spans and names stand in texts, and how they are read."""

from keptnights.channels import Channel
from keptnights.checks import are_figures, is_name
from keptnights.groups import Group

MOST_FIGURES = 8


def read_number(word):
    """The number of a word, None if it is not written as a number without leading zeros."""
    if not are_figures(word) or len(word) > MOST_FIGURES or word[0] == "0" and len(word) > 1:
        return None
    return int(word)


def read_signed(word):
    """The number of a word with a dash ahead if it is below 0, or None."""
    if not word.startswith("-"):
        return read_number(word)
    number = read_number(word[1:])
    return None if number is None else -number


def read_pair(word):
    """The two numbers of a word like 3-5, whether they are a span or not, or None."""
    first, _, leave = word.partition("-")
    pair = (read_number(first), read_number(leave))
    return None if None in pair else pair


def read_named(word):
    """The name and the number of a word like ann=5, whether it is a right name or not, or None."""
    name, _, figures = word.partition("=")
    number = read_number(figures)
    return None if number is None else (name, number)


def read_count(word):
    """The pair and the number of a word like 3-5=2, or None."""
    named = read_named(word)
    if named is None:
        return None
    pair = read_pair(named[0])
    return None if pair is None else (pair, named[1])


def read_single(words):
    """The name, the pair and the cost of the words of a single stay, or None."""
    if len(words) != 3:
        return None
    pair = read_pair(words[1])
    cost = read_number(words[2])
    if pair is None or cost is None and words[2] != "-":
        return None
    return (words[0], pair, cost)


def read_group(words):
    """The group of some words, with the errors of groups but for names; None if it is not written so."""
    if len(words) < 5 or not is_name(words[0]):
        return None
    numbers = [read_number(word) for word in words[1:5]]
    pairs = [read_pair(word) for word in words[5:]]
    if None in numbers or None in pairs:
        return None
    return Group(words[0], pairs, numbers[0], numbers[1], numbers[2], numbers[3])


def read_channel(words):
    """The channel of some words, with the errors of channels but for names; None if it is not written so."""
    if len(words) < 2 or not is_name(words[0]):
        return None
    least_stay = read_number(words[1])
    counts = [read_count(word) for word in words[2:]]
    if least_stay is None or None in counts:
        return None
    return Channel(words[0], counts, least_stay)


def span_text(span):
    """A span as it stands in texts."""
    return f"{span[0]}-{span[1]}"


def text_of(lines):
    """The text of some lines, each ended by a line feed."""
    return "".join([line + "\n" for line in lines])
