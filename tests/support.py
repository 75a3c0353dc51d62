"""What the tests share: calls in all forms that point 2 allows, values of other kinds, small cases."""

import inspect
import unittest

# Values that are no whole numbers within any bounds of the document.
NO_NUMBERS = (None, True, False, "1", b"1", 1.0, [], [1], (1,), {}, {1: 1}, -10 ** 9, 10 ** 9)

NO_NAMES = (None, True, 7, "", "A", "a" * 13, "1a", "a b", "a-b", "aB", "_a", "a_", "\u00e9", "a\u00e9",
            "a\u0661", "a\n", b"ab", ["a"], ("a",), {"a": 1})

NO_SPANS = (None, True, 3, "ab", "01", b"ab", {}, {0: 1, 1: 2}, [], (1,), (1, 2, 3), [1, 1], (2, 1), (-1, 2),
            (36525, 36526), (0, 36526), (True, 2), (0, True), (False, 2), (1, 2.0), ("0", "1"), (None, 1),
            ((0, 1), (1, 2)), {0, 1})

NO_SEQUENCES = (None, True, 3, "", "abc", b"ab", {}, {0: 1}, {1, 2}, 1.5, range(2), object())

# Values of other kinds for functions that take any value.
ANYTHING = NO_SEQUENCES + ([], (), [None], [True], [[]], [[[]]], [0], (0, 1), [[0]], [(0, 1)], [[0, 1], [2]],
                           [[0, 1, 2, 3]], ["a"], [("a", "a", 1)], ["a", "a", 1], [-1], [10 ** 9], [1.0], [{}],
                           [[True, True]], [None, None], [[None, None]], [(0, 1, True)], [set()])


def as_lists(value):
    """A value with lists at every level; tuples within dicts stay."""
    return [as_lists(item) for item in value] if isinstance(value, (list, tuple)) else value


def as_tuples(value):
    """A value with tuples at every level."""
    return tuple(as_tuples(item) for item in value) if isinstance(value, (list, tuple)) else value


def has_list(value):
    """Whether there is a list in a value, at any level."""
    return isinstance(value, list) or isinstance(value, tuple) and any(has_list(item) for item in value)


def plain(value):
    """A value that can be compared: an object without an == of its own as its fields."""
    if hasattr(value, "__dict__") and type(value).__eq__ is object.__eq__:
        return (type(value).__name__, sorted(vars(value).items()))
    return value


def shape(value):
    """A text that tells a list from a tuple and 1 from True."""
    return repr(plain(value))


def small_spans(nights):
    """All spans within so many nights."""
    return [(first, leave) for first in range(nights) for leave in range(first + 1, nights + 1)]


def random_span(random, nights, longest=None):
    """A span within so many nights, of at most the longest length."""
    first = random.randrange(nights)
    last = nights if longest is None else min(nights, first + longest)
    return (first, random.randint(first + 1, last))


class Case(unittest.TestCase):
    """A test case that calls functions in all the forms that point 2 allows."""

    def ask(self, function, *args):
        """The answer, after calls with lists, tuples, by position and by name have given the same."""
        names = list(inspect.signature(function).parameters)[:len(args)]
        answers = []
        for form in (as_tuples(args), tuple(as_lists(args))):
            before = shape(form)
            answers.append(function(*form))
            answers.append(function(**dict(zip(names, form))))
            self.assertEqual(before, shape(form), "an argument was changed")
        for answer in answers:
            self.assertEqual(shape(answers[0]) if has_list(answer) else plain(answers[0]), plain(answer))
            self.assertFalse(has_list(answer), "a list was returned")
            for field in getattr(answer, "__dict__", {}).values():
                self.assertFalse(has_list(field), "a field has a list")
        return answers[0]

    def refuse(self, error, fields, function, *args, **named):
        """The call raises just this error with these fields, and changes no argument."""
        before = (shape(args), shape(tuple(named.items())))
        with self.assertRaises(error) as caught:
            function(*args, **named)
        self.assertIs(type(caught.exception), error)
        self.assertEqual(shape(list(vars(caught.exception).values())), shape(list(fields)))
        self.assertEqual(before, (shape(args), shape(tuple(named.items()))), "an argument was changed")
