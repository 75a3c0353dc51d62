"""Point 39: events."""

from random import Random

from keptnights.errors import BadEvent
from keptnights.events import is_event, last_told, minute_of, standing_events, voided, want_event
from tests.guests import RIGHT, random_events
from tests.support import ANYTHING, NO_NAMES, NO_NUMBERS, NO_SEQUENCES, NO_SPANS, Case, as_lists

STAMP = (5, "front")
WORDS = ("stay", "state", "left", "grant", "charge", "paid", "void", "shares")


def wrong_stamps():
    stamps = list(NO_SEQUENCES) + [(), (5,), (5, "a", 1), ("a", 5)]
    return stamps + [(value, "a") for value in NO_NUMBERS + (-1,)] + [(5, value) for value in NO_NAMES]


def wrong_shares():
    pairs = [("a", value) for value in NO_NUMBERS + (-1,)] + [(value, 1) for value in NO_NAMES] + [None, "ab", ("a",)]
    rows = [[("b", 1), pair] for pair in pairs + [("a", 1, 1), ("b", 1)]]
    return rows + list(NO_SEQUENCES) + [[], [("a", 0)], [("a", 0), ("b", 0)], [(f"n{k}", 1) for k in range(9)]]


def wrong_events():
    """Values that are no events, many with just one thing wrong."""
    found = [(stamp,) + event[1:] for stamp in wrong_stamps() for event in RIGHT[::7]]
    found += [event[:-1] for event in RIGHT] + [event + (1,) for event in RIGHT] + [event[1:] for event in RIGHT]
    found += [(STAMP, word) for word in WORDS] + [(STAMP, word, None) for word in WORDS]
    found += [(STAMP, word, 1) for word in (None, 1, "", "Stay", "stays", ["left"], ("left",), b"left", True)]
    found += [(STAMP, "stay", span, "day") for span in NO_SPANS] + [(STAMP, "stay", (0, 1), name) for name in NO_NAMES]
    found += [(STAMP, "state", value) for value in (None, "", "Here", "left", "gone", ["here"], ("here",), 1, b"here")]
    found += [(STAMP, "left", value) for value in NO_NUMBERS + (-1, 100000000)]
    found += [(STAMP, "grant", value) for value in NO_NUMBERS + (-1, 101)]
    for word in ("charge", "paid"):
        found += [(STAMP, word, "bar", value) for value in NO_NUMBERS + (0, -10000000, 10000000)]
        found += [(STAMP, word, name, 5) for name in NO_NAMES] + [(STAMP, word, 5, "bar")]
    found += [(STAMP, "void", stamp) for stamp in wrong_stamps()]
    return found + [(STAMP, "shares", value) for value in wrong_shares()] + list(ANYTHING) + [STAMP]


class TestEvents(Case):
    def test_right_events(self):
        for event in RIGHT:
            self.assertIs(self.ask(is_event, event), True, event)
            self.assertEqual(self.ask(want_event, event), event)

    def test_wrong_events(self):
        for value in wrong_events():
            self.assertIs(is_event(value), False, value)
            self.refuse(BadEvent, (value,), want_event, value)
        self.assertIs(is_event(value=as_lists(RIGHT[0])), True)

    def test_the_minute(self):
        self.assertEqual([self.ask(minute_of, event) for event in RIGHT[:3]], [0, 1, 2])

    def test_the_last_one_in_a_sequence(self):
        events = [((9, "a"), "left", 4), ((3, "a"), "left", 5), ((5, "a"), "grant", 6)]
        self.assertEqual(self.ask(last_told, events, "left"), events[1])
        self.assertEqual(self.ask(last_told, events[::-1], "left"), events[0])
        self.assertEqual(self.ask(last_told, events, "grant"), events[2])
        self.assertIsNone(self.ask(last_told, events, "stay"))
        self.assertIsNone(self.ask(last_told, [], "left"))

    def test_what_is_voided(self):
        events = [((9, "a"), "void", (3, "a")), ((3, "a"), "charge", "bar", 5), ((4, "a"), "charge", "bar", 6),
                  ((5, "a"), "void", (7, "x")), ((6, "a"), "void", (3, "a")), ((3, "b"), "paid", "ann", 7)]
        self.assertEqual(self.ask(voided, events), ((3, "a"), (7, "x"), (3, "a")))
        self.assertEqual(self.ask(standing_events, events, "charge"), (events[2],))
        self.assertEqual(self.ask(standing_events, events, "paid"), (events[5],))
        self.assertEqual(self.ask(standing_events, events, "grant"), ())
        self.assertEqual((self.ask(voided, []), self.ask(voided, events[1:3])), ((), ()))

    def test_void_events_that_are_voided(self):
        events = [((1, "a"), "void", (2, "a")), ((2, "a"), "void", (3, "a")), ((3, "a"), "charge", "bar", 5),
                  ((4, "a"), "void", (4, "a"))]
        # A void event that is voided voids all the same.
        self.assertEqual(self.ask(standing_events, events, "charge"), ())
        self.assertEqual(self.ask(standing_events, events, "void"), (events[0],))

    def test_against_the_words_of_the_point(self):
        random = Random(39)
        for _ in range(200):
            events = random_events(random)
            gone = [event[2] for event in events if event[1] == "void"]
            self.assertEqual(self.ask(voided, events), tuple(gone))
            for word in WORDS:
                told = [event for event in events if event[1] == word]
                self.assertEqual(self.ask(last_told, events, word), told[-1] if told else None)
                self.assertEqual(self.ask(standing_events, events, word), tuple(e for e in told if e[0] not in gone))
