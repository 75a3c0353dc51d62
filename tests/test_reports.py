"""Point 54: reports."""

from random import Random

from keptnights.channels import Channel
from keptnights.courses import Course, course_keeps, house_spans
from keptnights.frontdesk import FrontDesk
from keptnights.groups import Group
from keptnights.plans import Plan
from keptnights.reports import (arrivals_at, course_report, departures_at, fullest_nights, house_lists, is_balanced, night_row,
                                occupancy, report, staying_at, worst_rows)
from tests.support import Case, random_span
from tests.trials import all_courses, loads, random_plan


def row_by_words(spans, rooms, night):
    arrive = sum(first == night for first, _ in spans)
    depart = sum(leave == night for _, leave in spans)
    stay = sum(first <= night - 1 and night < leave for first, leave in spans)
    guests = sum(first <= night < leave for first, leave in spans)
    return night, arrive, depart, stay, guests, rooms - guests


class TestReports(Case):
    def test_against_the_words_of_the_point(self):
        random = Random(54)
        for _ in range(150):
            spans = [random_span(random, 9) for _ in range(random.randrange(8))]
            rooms = random.randrange(9)
            first = random.randrange(9)
            leave = random.randint(first + 1, 11)
            rows = tuple(row_by_words(spans, rooms, night) for night in range(first, leave))
            self.assertEqual(self.ask(report, spans, rooms, first, leave), rows)
            for night in range(11):
                row = row_by_words(spans, rooms, night)
                self.assertEqual(self.ask(night_row, spans, rooms, night), row)
                counts = tuple(self.ask(function, spans, night) for function in (arrivals_at, departures_at, staying_at))
                self.assertEqual(counts, row[1:4])
                self.assertIs(self.ask(is_balanced, spans, night), True)
            guests = [row[4] for row in rows]
            self.assertEqual(self.ask(occupancy, spans, rooms, first, leave), (sum(guests), rooms * (leave - first)))
            least = min(row[5] for row in rows)
            fullest = tuple(row[0] for row in rows if row[5] == least)
            self.assertEqual(self.ask(fullest_nights, spans, rooms, first, leave), (least, fullest))

    def test_a_night_without_guests(self):
        self.assertEqual(night_row([], 3, 5), (5, 0, 0, 0, 0, 3))
        self.assertEqual(night_row([(2, 5)], 3, 5), (5, 0, 1, 0, 0, 3))
        self.assertEqual((report([], 0, 5, 5), report([(0, 9)], 1, 5, 5), occupancy([(0, 9)], 4, 5, 5)), ((), (), (0, 0)))
        self.assertEqual((fullest_nights([], 2, 0, 2), is_balanced([], 1), is_balanced([(0, 1)], 0)), ((2, (0, 1)), True, True))

    def test_the_ends_of_the_calendar(self):
        spans = [(0, 1), (0, 36525), (36524, 36525)]
        self.assertEqual(night_row(spans, 2, 0), (0, 2, 0, 0, 2, 0))
        self.assertEqual(night_row(spans, 2, 1), (1, 0, 1, 1, 1, 1))
        self.assertEqual(night_row(spans, 2, 36524), (36524, 1, 0, 1, 2, 0))
        self.assertEqual((departures_at(spans, 36525), is_balanced(spans, 36524), is_balanced(spans, 0)), (2, True, True))
        self.assertEqual(occupancy(spans, 2, 0, 36525), (36527, 73050))
        self.assertEqual(fullest_nights(spans, 2, 0, 36525), (0, (0, 36524)))

    def test_courses(self):
        random = Random(540)
        for _ in range(120):
            plan = random_plan(random, random.choice((0, 6)))
            course = Course(*random.choice(list(all_courses(plan))[:99]))
            moved = [k for k in range(len(plan.singles)) if random.random() < 0.4]
            spans = house_spans(plan, course, moved)
            rows = self.ask(course_report, plan, course, moved)
            self.assertEqual(rows, tuple(row_by_words(spans, plan.rooms, night) for night in plan.nights()))
            if course_keeps(plan, course, moved):
                self.assertTrue(all(row[5] >= 0 for row in rows))
            for night in range(0, 12):
                there = [k for k, (_, span, _) in enumerate(plan.singles) if span[0] <= night < span[1]]
                lists = tuple(tuple(plan.singles[k][0] for k in there if (k in moved) is annex) for annex in (False, True))
                self.assertEqual(self.ask(house_lists, plan, course, moved, night), lists)
                self.assertEqual(house_lists(plan, course, moved[::-1], night), lists)

    def test_worst_rows(self):
        random = Random(541)
        for _ in range(120):
            plan = random_plan(random, random.choice((0, 6)))
            rows = self.ask(worst_rows, plan)
            self.assertEqual(tuple(row[0] for row in rows), plan.nights())
            parts = [Plan(0, 0, plan.singles), Plan(0, 0, [], upkeep=plan.upkeep), Plan(0, 0, [], plan.groups), Plan(0, 0, [], (), plan.channels)]
            for row in rows:
                self.assertEqual(row[1:5], tuple(part.worst(row[0]) for part in parts))
                self.assertEqual((sum(row[1:5]), row[5]), (plan.worst(row[0]), plan.rooms))
        self.assertEqual((worst_rows(Plan(3, 0, [])), course_report(Plan(3, 0, []), Course((), ()), ())), ((), ()))

    def test_a_report_agrees_with_a_desk(self):
        random = Random(542)
        for _ in range(40):
            spans = [random_span(random, 9, 4) for _ in range(12)]
            desk = FrontDesk(12)
            for night in range(9):
                for guest, span in enumerate(spans):
                    if span[1] == night:
                        desk.leave(guest)
                for guest, span in enumerate(spans):
                    if span[0] == night:
                        desk.arrive(guest)
                row = night_row(spans, 12, night)
                self.assertEqual((row[1], row[4], row[5]), (sum(one[0] == night for one in desk.log), len(desk), len(desk.free())))
                desk.end_night()
            self.assertEqual(occupancy(spans, 12, 0, 9)[0], sum(loads(spans, range(9))))

    def test_the_largest_reports(self):
        random = Random(543)
        groups = [Group(f"g{k}", [random_span(random, 80, 9) for _ in range(30)], 5, 25, 9, 7) for k in range(8)]
        channels = [Channel(f"c{k}", [((k, k + 1), 400) for k in range(60)], 14 - k) for k in range(8)]
        plan = Plan(400, 30, [(f"s{k}", random_span(random, 80, 14), 5) for k in range(60)], groups, channels)
        self.assertEqual(len(worst_rows(plan)), len(plan.nights()))
        spans = [random_span(random, 90, 9) for _ in range(3000)]
        self.assertEqual(report(spans, 400, 0, 90), tuple(row_by_words(spans, 400, night) for night in range(90)))
