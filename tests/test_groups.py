"""Point 21: groups."""

from itertools import product
from random import Random

from keptnights.errors import BadItem, BadName, BadNumber, TooMany
from keptnights.groups import Group, is_coming, stays_of
from tests.support import ANYTHING, NO_NAMES, NO_NUMBERS, NO_SEQUENCES, NO_SPANS, Case, random_span
from tests.trials import all_comers

SPANS = ((0, 2), (1, 3), (2, 5))


def guests_at(group, pairs, night):
    return sum(group.spans[k][0] <= night < group.spans[k][1] + more for k, more in pairs)


class TestGroups(Case):
    def random_groups(self, many):
        random = Random(21)
        for _ in range(many):
            spans = [random_span(random, 5) for _ in range(random.randrange(5))]
            most = random.randint(0, len(spans))
            late_guests = random.randint(0, most)
            yield Group("g", spans, random.randint(0, most), most, late_guests, random.randrange(4))

    def test_fields(self):
        group = self.ask(Group, "herd", SPANS, 1, 3, 2, 7)
        self.assertEqual(group.fields(), ("herd", SPANS, 1, 3, 2, 7))
        fields = (group.name, group.spans, group.least, group.most, group.late_guests, group.late_nights)
        self.assertEqual(fields, group.fields())
        self.assertEqual(len(group), 3)
        plain = self.ask(Group, "a", [], 0, 0)
        self.assertEqual((plain.fields(), len(plain)), (("a", (), 0, 0, 0, 0), 0))

    def test_equal(self):
        group = Group("a", SPANS, 1, 3, 2, 1)
        self.assertTrue(group == Group("a", [list(span) for span in SPANS], 1, 3, 2, 1))
        self.assertFalse(group != Group("a", SPANS, 1, 3, 2, 1))
        for other in (Group("b", SPANS, 1, 3, 2, 1), Group("a", SPANS[::-1], 1, 3, 2, 1), Group("a", SPANS, 0, 3, 2, 1),
                      Group("a", SPANS, 1, 2, 2, 1), Group("a", SPANS, 1, 3, 1, 1), Group("a", SPANS, 1, 3, 2, 2),
                      group.fields(), None, 3, "a"):
            self.assertFalse(group == other)
            self.assertTrue(group != other)

    def test_copies(self):
        spans = [[0, 2], [1, 3]]
        group = Group("a", spans, 0, 1)
        spans[0][0] = 1
        spans.append([5, 6])
        self.assertEqual(group.spans, ((0, 2), (1, 3)))

    def test_the_worst_of_all_comers(self):
        for group in self.random_groups(150):
            for night in range(9):
                there = tuple(k for k, span in enumerate(group.spans) if span[0] <= night < span[1])
                self.assertEqual(self.ask(group.there, night), there)
                on = tuple(k for k, span in enumerate(group.spans) if span[1] <= night < span[1] + group.late_nights)
                self.assertEqual(self.ask(group.staying_on, night), on)
                worst = max(guests_at(group, pairs, night) for pairs in all_comers(group))
                self.assertEqual(self.ask(group.worst, night), worst)
                comers = self.ask(group.worst_comers, night)
                self.assertIn(comers, list(all_comers(group)))
                self.assertTrue(is_coming(group, comers))
                self.assertEqual(guests_at(group, comers, night), worst)

    def test_all_small_comers(self):
        for group in (Group("a", SPANS, 1, 2, 1, 2), Group("a", SPANS, 0, 3, 0, 3), Group("a", SPANS, 2, 2, 2, 0)):
            right = set(all_comers(group))
            pairs = list(product(range(-1, 4), range(-1, 4)))
            for size in range(4):
                for some in product(pairs, repeat=size):
                    self.assertIs(is_coming(group, some), some in right)

    def test_is_coming_of_other_values(self):
        group = Group("a", SPANS, 1, 3, 3, 3)
        self.assertTrue(self.ask(is_coming, group, [(0, 3), (2, 0)]))
        for value in ([(0, True)], [(True, 0)], [(0, 1, 1)], [(0,)], [(0, None)], ["00"], (0, 0), [(0, 1.0)]):
            self.assertIs(is_coming(group, value), False)
        for value in ANYTHING:
            self.assertIsInstance(is_coming(group, value), bool)
            self.assertIs(is_coming(group, value), value in ([[0, 0]], [(0, 1)]))

    def test_stays(self):
        group = Group("a", SPANS, 0, 3, 3, 7)
        self.assertEqual(self.ask(stays_of, group, [(0, 0), (2, 7)]), ((0, 2), (2, 12)))
        self.assertEqual(self.ask(stays_of, group, []), ())

    def test_wrong_fields(self):
        for value in NO_NAMES:
            self.refuse(BadName, (value,), Group, value, None, None, None, None, None)
        for value in NO_SEQUENCES:
            self.refuse(BadItem, (None,), Group, "a", value, None, None, None, None)
        for value in NO_SPANS:
            self.refuse(BadItem, (1,), Group, "a", [(0, 1), value], None, None, None, None)
        self.refuse(TooMany, (30,), Group, "a", [(0, 1)] * 31, None, None, None, None)
        self.refuse(BadItem, (31,), Group, "a", [(0, 1)] * 31 + [()], None, None, None, None)
        for value in NO_NUMBERS + (-1, 4):
            self.refuse(BadNumber, (value,), Group, "a", SPANS, "least", value, "late", "nights")
        for value in NO_NUMBERS + (-1, 3):
            self.refuse(BadNumber, (value,), Group, "a", SPANS, value, 2, "late", "nights")
            self.refuse(BadNumber, (value,), Group, "a", SPANS, 2, 2, value, "nights")
        for value in NO_NUMBERS + (-1, 8):
            self.refuse(BadNumber, (value,), Group, "a", SPANS, 2, 2, 2, value)
        self.refuse(BadNumber, (5,), Group, late_nights=9, late_guests=9, most=5, least=9, spans=SPANS, name="a")

    def test_the_greatest_numbers(self):
        group = Group("a", [(0, 36525)] * 30, 30, 30, 30, 7)
        self.assertEqual([group.worst(36524), group.worst(36525), group.worst(36532)], [30, 30, 0])
        self.assertEqual(group.worst_comers(36525), tuple((k, 1) for k in range(30)))
