"""Point 25: whether a plan is kept in every course."""

from random import Random

from keptnights.channels import Channel
from keptnights.courses import Course, course_keeps, course_rooms, is_course
from keptnights.groups import Group
from keptnights.plans import Plan
from keptnights.verdicts import (Verdict, breaking_course, can_still_sell, first_breach, is_kept, is_shown,
                                 least_rooms_for, slack_nights, verdict)
from tests.support import Case, random_span
from tests.trials import all_courses, cuts, later_plan, loads, random_plan, shows_least, subsets

FIELDS = ("word", "moved", "cost", "ups", "downs", "plus", "minus")
SINGLES = [("ann", (0, 2), None), ("bob", (1, 3), 30), ("cy", (2, 4), 10)]


def values_of(answer):
    return [getattr(answer, name) for name in FIELDS]


def movable_sets(plan):
    return [some for some in subsets(len(plan.singles)) if all(plan.singles[k][2] is not None for k in some)]


def breaches(plan, moved):
    """All triples (place, night, lacking rooms) by the words of the point, nights first, house ahead of annex."""
    spans = [plan.singles[k][1] for k in moved]
    found = []
    for night, many in zip(plan.nights(), loads(spans, plan.nights())):
        found.append(("house", night, plan.worst(night) - many - plan.rooms))
        found.append(("annex", night, plan.annex_load(night) + many - plan.annex))
    return [triple for triple in found if triple[2] > 0]


class TestVerdicts(Case):
    def random_plans(self, many):
        random = Random(25)
        for _ in range(many):
            yield random_plan(random, random.choice((0, 0, 5)))

    def test_the_example(self):
        found = verdict(Plan(1, 1, SINGLES))
        self.assertEqual((found.word, found.moved, found.cost), ("kept", (1,), 30))
        self.assertEqual(verdict(Plan(1, 0, SINGLES)).word, "cut")

    def test_the_fields(self):
        made = self.ask(Verdict, "kept", [1, 0], 3, [0, 1], [1, 0], None, None)
        self.assertEqual(values_of(made), ["kept", (1, 0), 3, (0, 1), (1, 0), None, None])
        made = Verdict("cut", None, None, None, None, minus=[1], plus=[])
        self.assertEqual(values_of(made), ["cut", None, None, None, None, (), (1,)])
        self.assertFalse(made == Verdict("cut", None, None, None, None, [], [1]))

    def test_kept_is_kept_in_every_course(self):
        words = {True: 0, False: 0}
        for plan in self.random_plans(150):
            courses = [Course(comers, sales) for comers, sales in all_courses(plan)]
            for moved in movable_sets(plan)[:5]:
                kept = all(course_keeps(plan, course, moved) for course in courses)
                words[kept] += 1
                self.assertIs(self.ask(is_kept, plan, moved), kept)
                if kept:
                    for course in courses[:10]:
                        self.assertIsNotNone(course_rooms(plan, course, moved, 1))
        self.assertTrue(min(words.values()) > 50)

    def test_against_all_choices_of_moved_singles(self):
        words = {"kept": 0, "cut": 0}
        for plan in self.random_plans(400):
            found = self.ask(verdict, plan)
            words[found.word] += 1
            costs = [sum(plan.singles[k][2] for k in some) for some in movable_sets(plan) if not breaches(plan, some)]
            self.assertEqual(found.word, "kept" if costs else "cut")
            self.assertIs(is_shown(plan, found), True)
            able = [k for k, single in enumerate(plan.singles) if single[2] is not None]
            stays = [plan.stays()[k] for k in able]
            spans, prices = [stay[0] for stay in stays], [stay[1] for stay in stays]
            if found.word == "kept":
                self.assertEqual((found.cost, found.plus, found.minus), (min(costs), None, None))
                self.assertIn(found.moved, movable_sets(plan))
                self.assertEqual((is_kept(plan, found.moved), breaking_course(plan, found.moved)), (True, None))
                chosen = [able.index(k) for k in found.moved]
                self.assertTrue(shows_least(plan.needs(), plan.free(), spans, prices, chosen, found.ups, found.downs))
            else:
                self.assertEqual(values_of(found)[1:5], [None] * 4)
                self.assertLessEqual(set(found.plus + found.minus), set(plan.nights()))
                plus, minus = [[night - plan.span[0] for night in row] for row in (found.plus, found.minus)]
                self.assertTrue(cuts(plan.needs(), plan.free(), spans, plus, minus))
        self.assertTrue(min(words.values()) > 50)

    def test_papers_are_rows_and_cuts_are_nights_of_the_plan(self):
        random = Random(250)
        words = {"kept": 0, "cut": 0}
        for _ in range(120):
            plan = random_plan(random)
            found, later = verdict(plan), verdict(later_plan(plan, 100))
            words[found.word] += 1
            self.assertEqual(values_of(found)[:5], values_of(later)[:5])
            if found.word == "cut":
                self.assertEqual(later.plus, tuple(night + 100 for night in found.plus))
                self.assertEqual(later.minus, tuple(night + 100 for night in found.minus))
                self.assertIs(is_shown(plan, later), False)
                self.assertIs(is_shown(later_plan(plan, 100), found), False)
        self.assertTrue(min(words.values()) > 20)

    def test_the_first_breach(self):
        seen = {}
        for plan in self.random_plans(150):
            for moved in subsets(len(plan.singles))[:12]:
                wrong = breaches(plan, moved)
                self.assertEqual(self.ask(first_breach, plan, moved), wrong[0] if wrong else None)
                self.assertEqual(first_breach(plan, moved[::-1]), wrong[0] if wrong else None)
                seen[wrong[0][0] if wrong else None] = True
        self.assertEqual(len(seen), 3)

    def test_house_ahead_of_annex(self):
        plan = Plan(0, 0, [("a", (5, 7), 1), ("b", (5, 6), 1)], upkeep=[(5, 6)])
        self.assertEqual(first_breach(plan, [0]), ("house", 5, 2))
        self.assertEqual(first_breach(plan, [0, 1]), ("house", 5, 1))
        plan = Plan(1, 0, [("a", (5, 7), 1), ("b", (6, 7), 1), ("c", (6, 8), 0)])
        self.assertEqual(first_breach(plan, [0]), ("annex", 5, 1))
        self.assertEqual(first_breach(plan, []), ("house", 6, 2))

    def test_breaking_courses(self):
        places = {"house": 0, "annex": 0}
        for plan in self.random_plans(200):
            for moved in movable_sets(plan)[:6]:
                course = self.ask(breaking_course, plan, moved)
                breach = first_breach(plan, moved)
                self.assertIs(course is None, breach is None)
                if breach is not None:
                    place, night, lacking = breach
                    places[place] += 1
                    self.assertTrue(is_course(plan, course))
                    self.assertIn((course.comers, course.sales), list(all_courses(plan)))
                    self.assertFalse(course_keeps(plan, course, moved))
                    inside = [single[1] for k, single in enumerate(plan.singles) if k not in moved] + list(plan.upkeep)
                    for group, pairs in zip(plan.groups, course.comers):
                        inside += [(group.spans[k][0], group.spans[k][1] + more) for k, more in pairs]
                    inside += [span for sold in course.sales for span in sold]
                    if place == "annex":
                        inside = list(plan.annex_stays) + [plan.singles[k][1] for k in moved]
                    limit = plan.rooms if place == "house" else plan.annex
                    self.assertEqual(loads(inside, [night]), [limit + lacking])
        self.assertTrue(min(places.values()) > 20)

    def test_rooms_and_slack(self):
        for plan in self.random_plans(150):
            worst = [plan.worst(night) for night in plan.nights()]
            self.assertEqual(self.ask(least_rooms_for, plan), max(worst, default=0))
            for moved in subsets(len(plan.singles))[:4]:
                covers = loads([plan.singles[k][1] for k in moved], plan.nights())
                slack = tuple(plan.rooms + many - most for many, most in zip(covers, worst))
                self.assertEqual(self.ask(slack_nights, plan, moved), slack)

    def test_what_can_still_be_sold(self):
        answers = {True: 0, False: 0}
        for plan in self.random_plans(200):
            for moved in [some for some in movable_sets(plan) if not breaches(plan, some)][:2] + [()]:
                nights = plan.nights()
                for span in [(first, leave + 1) for first in nights for leave in nights if first <= leave]:
                    more = Plan(plan.rooms, plan.annex, list(plan.singles) + [("new", span, None)], plan.groups,
                                plan.channels, plan.upkeep, plan.annex_stays)
                    answer = self.ask(can_still_sell, plan, moved, span)
                    answers[answer] += 1
                    self.assertIs(answer, not breaches(plan, moved) and not breaches(more, moved))
        self.assertTrue(min(answers.values()) > 50)

    def test_a_plan_without_nights(self):
        plan = Plan(0, 0, [])
        found = self.ask(verdict, plan)
        self.assertEqual(values_of(found), ["kept", (), 0, (), (), None, None])
        self.assertTrue(is_shown(plan, found))
        self.assertEqual((least_rooms_for(plan), slack_nights(plan, ()), first_breach(plan, [])), (0, (), None))
        self.assertEqual((is_kept(plan, []), breaking_course(plan, [])), (True, None))

    def test_groups_without_late_guests_or_late_nights(self):
        for late_guests, late_nights, word in ((0, 3, "kept"), (1, 0, "kept"), (1, 3, "cut")):
            group = Group("g", [(0, 2)], 0, 1, late_guests, late_nights)
            self.assertEqual(verdict(Plan(1, 0, [("a", (3, 4), None)], [group])).word, word)

    def test_the_annex_is_too_small_already(self):
        plan = Plan(5, 0, [("a", (0, 1), 3)], annex_stays=[(2, 3)])
        self.assertEqual((verdict(plan).word, first_breach(plan, [])), ("cut", ("annex", 2, 1)))
        self.assertTrue(is_shown(plan, verdict(plan)))

    def test_the_largest_plans(self):
        random = Random(251)
        for rooms in (60, 90, 120, 400):
            singles = [(f"s{k}", random_span(random, 80, 14), random.choice((None, 9999, random.randrange(9999))))
                       for k in range(60)]
            groups = [Group(f"g{k}", [random_span(random, 80, 9) for _ in range(30)], 5, 25, 9, 7) for k in range(8)]
            parts = [((k, k + 1), random.randrange(6)) for k in range(60)]
            channels = [Channel(f"c{k}", parts, 14 - k) for k in range(8)]
            spans = [random_span(random, 90, 10) for _ in range(60)]
            plan = Plan(rooms, 30, singles, groups, channels, spans, spans[:20])
            found = verdict(plan)
            self.assertTrue(is_shown(plan, found))
            self.assertIs(is_kept(plan, found.moved or ()), found.word == "kept")


class TestIsShown(Case):
    def shown(self, plan, *fields):
        return is_shown(plan, Verdict(*fields))

    def test_kept_with_one_thing_changed(self):
        plan = Plan(1, 1, SINGLES)
        ups, downs = (0, 0, 20, 0), (0, 0, 0, 0)
        found = verdict(plan)
        right = ["kept", found.moved, found.cost, found.ups, found.downs, None, None]
        self.assertIs(self.ask(is_shown, plan, Verdict(*right)), True)
        for place, values in ((0, ("cut", "Kept", "", None)), (1, ((), (2,), (1, 2), (0, 1), (1, 1), (1, 3), (-1,), None)),
                              (2, (29, 31, 0, None, "30")), (3, (ups, (0, 0), None, (9, 9, 9, 9), (-1, 0, 0, 0))),
                              (4, (found.downs[:3], None, (0, 0, 0, 1), (0, -1, 0, 0)))):
            for value in values:
                fields = right[:place] + [value] + right[place + 1:]
                if tuple(fields) != tuple(right):
                    self.assertIs(self.shown(plan, *fields), False, fields)
        self.assertIs(self.shown(Plan(1, 0, SINGLES), *right), False)
        self.assertIs(self.shown(Plan(0, 1, SINGLES), *right), False)
        self.assertIs(self.shown(Plan(1, 1, SINGLES[::-1]), *right), True)
        self.assertIs(self.shown(Plan(1, 1, SINGLES[:1] + [("bob", (1, 3), None)] + SINGLES[2:]), *right), False)

    def test_the_order_of_the_moved_singles_does_not_matter(self):
        plan = Plan(0, 2, [("a", (0, 1), 1), ("b", (0, 1), 2)])
        self.assertIs(self.shown(plan, "kept", [1, 0], 3, [2], [0], None, None), True)
        self.assertIs(self.shown(plan, "kept", [1, 0, 1], 3, [2], [0], None, None), False)
        self.assertIs(self.shown(plan, "kept", [1, 0], 3, [1], [0], None, None), False)

    def test_all_small_cuts(self):
        plan = Plan(1, 1, [("a", (4, 7), 3), ("b", (5, 6), None), ("c", (5, 6), 1), ("d", (5, 7), None)],
                    annex_stays=[(6, 7)])
        self.assertEqual((plan.needs(), plan.free()), ((0, 3, 1), (1, 1, 0)))
        found = 0
        for plus in subsets(3):
            for minus in subsets(3):
                right = cuts((0, 3, 1), (1, 1, 0), [(0, 3), (1, 2)], plus, minus)
                nights = [[place + 4 for place in row] for row in (plus, minus)]
                self.assertIs(self.shown(plan, "cut", None, None, None, None, *nights), right)
                self.assertIs(self.shown(plan, "kept", None, None, None, None, *nights), False)
                found += right
        self.assertTrue(found)
        self.assertIs(self.shown(plan, "cut", None, None, None, None, (5,), (4,)), True)
        for wrong in ((1,), (5, 5), (3,), (5, 7), (-1,), (True,), None):
            self.assertIs(self.shown(plan, "cut", None, None, None, None, wrong, ()), False)
            self.assertIs(self.shown(plan, "cut", None, None, None, None, (5,), wrong), False)

    def test_cuts_with_singles_that_can_and_that_cannot_move(self):
        for start in (0, 1, 7, 36000):
            stuck = Plan(1, 5, [("a", (start, start + 2), None), ("b", (start + 1, start + 3), None)])
            self.assertEqual((verdict(stuck).plus, is_shown(stuck, verdict(stuck))), ((start + 1,), True))
            full = Plan(0, 1, [("a", (start, start + 2), 4), ("b", (start + 1, start + 3), 4)])
            for plus in ((start,), (start + 1,), (start + 2,), (start - 1,), (1 - start,)):
                self.assertIs(self.shown(full, "cut", None, None, None, None, plus, ()), False)
                self.assertIs(self.shown(full, "cut", None, None, None, None, plus, plus), plus == (start + 1,))
            self.assertIs(is_shown(full, verdict(full)), True)

    def test_values_that_are_no_whole_numbers(self):
        plan = Plan(0, 1, [("a", (0, 2), None), ("b", (1, 2), 1), ("c", (1, 2), 1)])
        self.assertIs(self.shown(plan, "cut", None, None, None, None, (1,), ()), True)
        for row in ((True,), (1.0,), ("1",), (None,)):
            self.assertIs(self.shown(plan, "cut", None, None, None, None, row, ()), False)
        plan = Plan(0, 1, [("a", (0, 1), 1)])
        found = verdict(plan)
        for cost in (True, 1.0, "1", None):
            self.assertIs(self.shown(plan, "kept", (0,), cost, found.ups, found.downs, None, None), False)
        self.assertIs(self.shown(plan, "kept", (0,), 1, found.ups, found.downs, None, None), True)

    def test_a_plan_without_nights_has_no_cut(self):
        for row in ((), (0,), [5], None):
            self.assertIs(self.shown(Plan(0, 0, []), "cut", None, None, None, None, row, ()), False)
