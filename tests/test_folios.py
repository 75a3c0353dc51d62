"""Point 40: folios."""

from random import Random

from keptnights.errors import BadEvent, Taken, TooMany
from keptnights.folios import Folio
from tests.guests import RIGHT, random_events
from tests.support import Case, as_lists
from tests.test_events import wrong_events

ONE = ((5, "front"), "grant", 10)
TWO = ((5, "bar"), "charge", "tea", 300)
THREE = ((4, "spa"), "left", 7)


def many_events(many, start=0):
    return [((start + k // 2, "ab"[k % 2]), "charge", "bar", k + 1) for k in range(many)]


class TestFolios(Case):
    def test_events_ascend_by_stamps(self):
        folio = Folio([ONE, TWO, THREE])
        self.assertEqual(folio.events, (THREE, TWO, ONE))
        self.assertEqual((list(folio), len(folio)), ([THREE, TWO, ONE], 3))
        self.assertEqual((Folio().events, len(Folio()), list(Folio())), ((), 0, []))
        for events in (RIGHT, RIGHT[::-1], as_lists(RIGHT), tuple(RIGHT)):
            self.assertEqual(Folio(events=events).events, tuple(sorted(RIGHT, key=lambda event: event[0])))

    def test_an_event_that_is_told_again_changes_nothing(self):
        folio = Folio([ONE, TWO, as_lists(ONE), ONE])
        self.assertEqual(folio.events, (TWO, ONE))
        self.assertIsNone(folio.tell(as_lists(TWO)))
        self.assertIsNone(folio.tell(event=THREE))
        self.assertEqual(folio.events, (THREE, TWO, ONE))

    def test_stamps(self):
        folio = Folio([ONE, TWO])
        self.assertTrue((5, "front") in folio and (5, "bar") in folio)
        for stamp in ((5, "spa"), (4, "front"), ONE, None, 5, "front", (), (5,), {}, (5, {}), ({}, "front")):
            self.assertFalse(stamp in folio, stamp)

    def test_copies(self):
        events = as_lists([ONE, TWO])
        folio = Folio(events)
        events[0][2] = 99
        events.pop()
        self.assertEqual(folio.events, (TWO, ONE))

    def test_equal(self):
        random = Random(40)
        for _ in range(50):
            events = random_events(random)
            other = events[:]
            random.shuffle(other)
            self.assertTrue(Folio(events) == Folio(other))
            self.assertFalse(Folio(events) != Folio(as_lists(other)))
        for other in (Folio([ONE]), Folio([ONE, TWO, THREE]), Folio([ONE, TWO[:3] + (301,)]), (TWO, ONE), None, 2):
            self.assertFalse(Folio([ONE, TWO]) == other)
            self.assertTrue(Folio([ONE, TWO]) != other)

    def test_joined_parts_and_what_is_behind(self):
        random = Random(401)
        for _ in range(300):
            events = {event[0]: event for event in random_events(random)}
            one = [event for event in events.values() if random.random() < 0.6]
            two = [event for event in events.values() if random.random() < 0.6]
            first, second = Folio(one), Folio(two)
            both = Folio(one + two)
            self.assertTrue(first.joined(second) == both and second.joined(other=first) == both)
            self.assertEqual((first.events, second.events), (Folio(one).events, Folio(two).events))
            self.assertIs(first.is_part_of(second), all(event in two for event in one))
            self.assertTrue(first.is_part_of(both) and first.is_part_of(first))
            self.assertEqual(first.after(second), tuple(sorted(e for e in one if e not in two)))
            self.assertTrue(second.joined(Folio(first.after(second))) == both)
            self.assertIsNone(first.clash(second))
            for minute in (-1, 0, 1440, 2000, 9999):
                self.assertEqual(both.until(minute).events, tuple(e for e in both.events if e[0][0] <= minute))

    def test_clashes(self):
        one = Folio([ONE, TWO, THREE])
        two = Folio([((5, "front"), "grant", 11), ((5, "bar"), "charge", "tea", 301), THREE])
        self.assertEqual((one.clash(two), two.clash(one)), ((5, "bar"), (5, "bar")))
        self.assertEqual(one.after(two), (TWO, ONE))
        self.assertFalse(one.is_part_of(two))
        self.refuse(Taken, ((5, "bar"),), one.joined, two)
        self.assertEqual(one.clash(Folio([ONE, ((5, "bar"), "left", 1)])), (5, "bar"))
        self.assertIsNone(one.clash(Folio()))

    def test_until_makes_a_folio_of_its_own(self):
        folio = Folio([ONE, TWO, THREE])
        self.assertEqual((folio.until(4).events, folio.until(minute=5) == folio), ((THREE,), True))
        folio.until(5).tell(((6, "a"), "left", 1))
        self.assertEqual(len(folio), 3)

    def test_the_200th_and_the_201st_event(self):
        folio = Folio(many_events(199))
        folio.tell(many_events(200)[199])
        self.assertEqual(len(folio), 200)
        folio.tell(many_events(200)[3])
        self.refuse(TooMany, (200,), folio.tell, ((7000, "a"), "left", 1))
        self.refuse(Taken, ((0, "a"),), folio.tell, ((0, "a"), "left", 1))
        self.assertEqual(folio.events, tuple(many_events(200)))
        self.refuse(TooMany, (200,), Folio, many_events(201))
        self.refuse(Taken, ((0, "a"),), Folio, many_events(200) + [((0, "a"), "left", 1), ((7000, "a"), "left", 1)])
        self.refuse(BadEvent, (None,), Folio, many_events(200) + [None, ((0, "a"), "left", 1)])
        self.refuse(TooMany, (200,), folio.joined, Folio(many_events(1, 9000)))
        self.assertTrue(folio.joined(Folio(many_events(150))) == folio)

    def test_wrong_events(self):
        folio = Folio([ONE, TWO])
        for value in wrong_events()[::5]:
            self.refuse(BadEvent, (value,), folio.tell, value)
            self.refuse(BadEvent, (value,), Folio, [ONE, value, ((5, "front"), "grant", 11)])
        self.refuse(Taken, ((5, "front"),), folio.tell, [[5, "front"], "grant", 11])
        self.refuse(Taken, ((5, "front"),), Folio, [ONE, ((5, "front"), "left", 11), None])
        self.assertEqual(folio.events, (TWO, ONE))
