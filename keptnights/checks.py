"""What numbers, names, sequences, nights and spans are, and the errors for other values."""

from keptnights.errors import BadItem, BadName, BadNumber, BadSpan, TooMany

LAST_NIGHT = 36524
FIGURES = "0123456789"
LETTERS = "abcdefghijklmnopqrstuvwxyz"
LONGEST_NAME = 12


def is_whole(value):
    """Whether a value is an integer other than True and False."""
    return isinstance(value, int) and not isinstance(value, bool)


def is_between(value, least, most):
    """Whether a value is a whole number within these bounds."""
    return is_whole(value) and least <= value <= most


def is_sequence(value):
    """Whether a value is a list or a tuple."""
    return isinstance(value, (list, tuple))


def is_row(value, size):
    """Whether a value is a sequence of so many items."""
    return is_sequence(value) and len(value) == size


def are_between(value, size, least, most):
    """Whether a value is a sequence of so many whole numbers within these bounds."""
    return is_row(value, size) and all([is_between(item, least, most) for item in value])


def are_ascending(numbers):
    """Whether each number is greater than the one ahead of it."""
    return all([numbers[k] < numbers[k + 1] for k in range(len(numbers) - 1)])


def are_different_below(value, size):
    """Whether a value is a sequence of different whole numbers from 0 to size - 1."""
    if not is_sequence(value) or not are_between(value, len(value), 0, size - 1):
        return False
    return len({number: True for number in value}) == len(value)


def are_figures(text):
    """Whether a text has at least one figure, and nothing else."""
    return len(text) > 0 and all([sign in FIGURES for sign in text])


def is_name(value):
    """Whether a value is a name."""
    if not isinstance(value, str) or not 1 <= len(value) <= LONGEST_NAME:
        return False
    return value[0] in LETTERS and all([sign in LETTERS or sign in FIGURES for sign in value])


def is_night(value):
    """Whether a value is a night of the calendar."""
    return is_between(value, 0, LAST_NIGHT)


def is_span(value):
    """Whether a value is a span of nights of the calendar."""
    if not is_row(value, 2):
        return False
    first, leave = value
    return is_night(first) and is_between(leave, first + 1, LAST_NIGHT + 1)


def want_number(value, least, most):
    """Raise BadNumber unless a value is a whole number within these bounds."""
    if not is_between(value, least, most):
        raise BadNumber(value)


def want_name(value):
    """Raise BadName unless a value is a name."""
    if not is_name(value):
        raise BadName(value)


def want_span(value):
    """Raise BadSpan unless a value is a span."""
    if not is_span(value):
        raise BadSpan(value)


def want_sequence(value):
    """Raise BadItem for a value that is no sequence."""
    if not is_sequence(value):
        raise BadItem(None)


def first_wrong(marks):
    """The index of the first mark that is False, None if there is none."""
    # Operators run this, so no method may be called by a name that is also an attribute: no index().
    for place, mark in enumerate(marks):
        if not mark:
            return place
    return None


def want_right(marks, limit):
    """Raise BadItem for the first item that is marked False, then TooMany for more than the limit."""
    place = first_wrong(marks)
    if place is not None:
        raise BadItem(place)
    if len(marks) > limit:
        raise TooMany(limit)


def want_apart(spans):
    """Raise BadItem for the first span that begins before the one ahead of it ends."""
    for index in range(1, len(spans)):
        if spans[index][0] < spans[index - 1][1]:
            raise BadItem(index)


def copied_spans(value, limit):
    """The spans of a sequence as tuples, at most so many of them."""
    want_sequence(value)
    want_right([is_span(item) for item in value], limit)
    return tuple([tuple(item) for item in value])


def first_twice(names):
    """The first name that stands twice, or None."""
    for name in names:
        if names.count(name) > 1:
            return name
    return None


def as_tuples(value):
    """A value with a tuple in the place of each sequence, at every level; what is none stays as it is."""
    return tuple([as_tuples(item) for item in value]) if is_sequence(value) else value
