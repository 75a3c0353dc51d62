"""Point 24: courses of a plan."""

from itertools import product
from random import Random

from keptnights.channels import Channel
from keptnights.courses import (Course, annex_spans, course_keeps, course_rooms, guests_at, house_spans, is_course,
                                quiet_course, worst_course)
from keptnights.groups import Group
from keptnights.plans import Plan
from keptnights.roomplans import is_room_plan
from tests.support import ANYTHING, Case
from tests.trials import all_courses, loads, random_plan

SINGLES = (("ann", (10, 12), None), ("bob", (11, 13), 30), ("cy", (12, 14), 0))
HERD = Group("herd", [(11, 13), (12, 15), (10, 11)], 1, 2, 1, 2)
WEB = Channel("web", [((10, 12), 2), ((13, 14), 1)])
PLAN = Plan(5, 3, SINGLES, [HERD], [WEB], [(12, 13)], [(11, 12), (11, 14)])
COURSE = Course([[(0, 2), (2, 0)]], [[(10, 12), (10, 11)]])


def spans_by_words(plan, comers, sales, moved):
    spans = [span for k, (_, span, _) in enumerate(plan.singles) if k not in moved] + list(plan.upkeep)
    for group, pairs in zip(plan.groups, comers):
        spans += [(group.spans[k][0], group.spans[k][1] + more) for k, more in pairs]
    return tuple(spans + [span for sold in sales for span in sold])


class TestCourses(Case):
    def random_plans(self, many):
        random = Random(24)
        for _ in range(many):
            yield random_plan(random, random.choice((0, 7)))

    def test_fields(self):
        course = self.ask(Course, [[(0, 2)], []], [[(1, 3)]])
        self.assertEqual((course.comers, course.sales), ((((0, 2),), ()), (((1, 3),),)))

    def test_equal(self):
        self.assertTrue(COURSE == Course((((0, 2), (2, 0)),), (((10, 12), (10, 11)),)))
        self.assertFalse(COURSE != Course(COURSE.comers, COURSE.sales))
        for other in (Course(COURSE.comers, []), Course([], COURSE.sales), None, 3, (COURSE.comers, COURSE.sales)):
            self.assertFalse(COURSE == other)
            self.assertTrue(COURSE != other)

    def test_copies(self):
        comers, sales = [[[0, 2]]], [[[1, 3]]]
        course = Course(comers, sales)
        comers[0][0][1] = 9
        comers.append([])
        sales[0].clear()
        self.assertEqual((course.comers, course.sales), ((((0, 2),),), (((1, 3),),)))

    def test_spans(self):
        house = ((10, 12), (12, 14), (12, 13), (11, 15), (10, 11), (10, 12), (10, 11))
        self.assertEqual(self.ask(house_spans, PLAN, COURSE, [1]), house)
        self.assertEqual(self.ask(annex_spans, PLAN, [1]), ((11, 12), (11, 14), (11, 13)))
        self.assertEqual(self.ask(annex_spans, PLAN, []), ((11, 12), (11, 14)))
        self.assertEqual([self.ask(guests_at, PLAN, COURSE, [1], night) for night in range(9, 16)],
                         [0, 4, 3, 3, 2, 1, 0])
        empty = Plan(0, 0, [])
        self.assertEqual((house_spans(empty, Course([], []), []), annex_spans(empty, [])), ((), ()))

    def test_the_spans_of_all_courses(self):
        for plan in self.random_plans(60):
            moved = [k for k, single in enumerate(plan.singles) if single[2] is not None][:2]
            for comers, sales in list(all_courses(plan))[:40]:
                course = Course(comers, sales)
                self.assertIs(is_course(plan, course), True)
                spans = house_spans(plan, course, moved)
                self.assertEqual(spans, spans_by_words(plan, comers, sales, moved))
                for night in plan.nights():
                    self.assertEqual(guests_at(plan, course, moved, night), loads(spans, [night])[0])
                others = plan.annex_stays + tuple(plan.singles[k][1] for k in moved)
                self.assertEqual(annex_spans(plan, moved), others)
                keeps = max(loads(spans, plan.nights()), default=0) <= plan.rooms
                keeps = keeps and max(loads(others, plan.nights()), default=0) <= plan.annex
                self.assertIs(course_keeps(plan, course, moved), keeps)

    def test_the_worst_of_all_courses(self):
        for plan in self.random_plans(120):
            every = [spans_by_words(plan, comers, sales, ()) for comers, sales in all_courses(plan)]
            for night in plan.nights():
                course = self.ask(worst_course, plan, night)
                self.assertTrue(is_course(plan, course))
                self.assertIn((course.comers, course.sales), list(all_courses(plan)))
                most = max(loads(spans, [night])[0] for spans in every)
                self.assertEqual((plan.worst(night), guests_at(plan, course, [], night)), (most, most))

    def test_the_quiet_course(self):
        for plan in self.random_plans(60):
            course = self.ask(quiet_course, plan)
            self.assertTrue(is_course(plan, course))
            self.assertEqual(course.comers, tuple(tuple((k, 0) for k in range(group.least)) for group in plan.groups))
            self.assertEqual(course.sales, ((),) * len(plan.channels))

    def test_rooms(self):
        for plan in self.random_plans(60):
            for comers, sales in list(all_courses(plan))[:15]:
                course = Course(comers, sales)
                spans = house_spans(plan, course, [])
                fits = max(loads(spans, plan.nights()), default=0) <= plan.rooms
                for choice in (0, 1, 5):
                    rooms = course_rooms(plan, course, [], choice)
                    self.assertTrue(is_room_plan(spans, plan.rooms, rooms) if fits else rooms is None)
                self.assertEqual(course_rooms(plan, course, []), course_rooms(plan, course, [], 0))
        self.assertEqual(self.ask(course_rooms, PLAN, COURSE, [1], 1), (1, 1, 3, 2, 2, 3, 4))

    def test_course_keeps_in_all_forms(self):
        self.assertIs(self.ask(course_keeps, PLAN, COURSE, [1]), True)
        self.assertIs(self.ask(course_keeps, PLAN, COURSE, []), True)
        self.assertIs(course_keeps(Plan(3, 3, SINGLES, [HERD], [WEB]), COURSE, []), False)
        self.assertIs(course_keeps(Plan(5, 1, SINGLES, [HERD], [WEB]), COURSE, [1, 2]), False)


class TestIsCourse(Case):
    def test_all_small_courses(self):
        plan = Plan(9, 9, [], [Group("a", [(0, 2), (1, 2)], 1, 2, 1, 1)], [Channel("b", [((0, 2), 1)])])
        right = set(all_courses(plan))
        pairs = list(product(range(-1, 3), repeat=2))
        comers = [some for size in range(3) for some in product(pairs, repeat=size)]
        sales = [some for size in range(3) for some in product([(0, 1), (1, 2), (0, 2), (1, 3), (0, 0)], repeat=size)]
        found = 0
        for some in comers:
            for sold in sales[:31]:
                expected = ((some,), (tuple(sorted(sold)),)) in right
                self.assertIs(is_course(plan, Course([some], [sold])), expected)
                found += expected
        self.assertTrue(found)

    def test_one_thing_changed(self):
        self.assertIs(self.ask(is_course, PLAN, COURSE), True)
        comers, sales = COURSE.comers, COURSE.sales
        for wrong in ((), comers * 2, (((0, 2),) * 2,), (((0, 3),),), (((2, 0), (0, 2)),), ((),), (((0, 0), (1, 0), (2, 0)),),
                      (((0, 1), (1, 1)),), (((3, 0),),), (((-1, 0),),), (((0, -1),),)):
            self.assertIs(is_course(PLAN, Course(wrong, sales)), False, wrong)
        for wrong in ((), sales * 2, (((9, 10),),), (((13, 15),),), (((10, 11),) * 3,), (((11, 11),),)):
            self.assertIs(is_course(PLAN, Course(comers, wrong)), False, wrong)
        for right in ((((0, 0),),), (((2, 1),),), (((0, 0), (1, 0)),)):
            self.assertIs(is_course(PLAN, Course(right, [[]])), True)

    def test_values_of_other_kinds(self):
        plan = Plan(9, 9, [], [Group("a", [(0, 2), (1, 2)], 0, 2, 2, 1)], [Channel("b", [((0, 2), 2)])])
        for value in ANYTHING:
            self.assertIs(is_course(plan, Course([value], [[]])), value in ([], (), [(0, 1)]))
            self.assertIs(is_course(plan, Course([[]], [value])), value in ([], (), [(0, 1)]))
            self.assertIs(is_course(plan, Course(value, [[]])), value == [[]])
            self.assertIs(is_course(plan, Course([[]], value)), value == [[]])
        for value in ([(0, True)], [(False, 0)], [(0, 0, 0)], [(0,)], ["00"], [(0, None)], [(0, 1.0)], [{0: 0, 1: 0}]):
            self.assertIs(is_course(plan, Course([value], [[]])), False)
            self.assertIs(is_course(plan, Course([[]], [value])), False)

    def test_without_groups_and_channels(self):
        self.assertIs(is_course(Plan(1, 1, []), Course([], [])), True)
        self.assertIs(is_course(Plan(1, 1, []), Course([[]], [])), False)
        self.assertIs(is_course(Plan(1, 1, []), Course([], [[]])), False)
