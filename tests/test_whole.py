"""Point 1: what the document promises over the whole program."""

from random import Random

from keptnights.audits import Audit
from keptnights.bills import Rules, bill
from keptnights.courses import Course, annex_spans, course_keeps, house_spans
from keptnights.daily import daily_of, on_day
from keptnights.desks import Desk
from keptnights.errors import KeptError
from keptnights.folios import Folio
from keptnights.foliotexts import format_folio, parse_folio
from keptnights.frontdesk import rooms_in_log, run_course
from keptnights.histories import replayed
from keptnights.loads import peak
from keptnights.notes import parse_plan
from keptnights.offers import Offer
from keptnights.plans import Plan
from keptnights.policies import Policy
from keptnights.relief import relief_to
from keptnights.reports import course_report, house_lists, is_balanced, occupancy, worst_rows
from keptnights.roomplans import is_room_plan
from keptnights.taxes import Taxes
from keptnights.trials import tried
from keptnights.verdicts import first_breach, is_shown
from keptnights.whatif import least_annex, least_house, with_rooms
from tests.deeds import random_deed
from tests.support import Case
from tests.test_desks import command_of
from tests.trials import all_courses, random_plan


def used_desk(random, steps):
    """A desk behind random commands, of which many were refused."""
    desk = Desk(random.randint(1, 4), random.randrange(3))
    for _ in range(steps):
        command = random.choice([command_of(random_deed(random, 4))] * 4 + ["undo", "redo"])
        try:
            desk.execute(command)
        except KeptError:
            pass
    return desk


def folios_of(spans, random):
    """A folio of a guest who is here for each span; what is told, is told in any order."""
    folios = []
    for number, span in enumerate(spans):
        events = [((number, "front"), "stay", span, "plain"), ((number + 1, "front"), "state", "here"),
                  ((1440 * span[0] + number, "bar"), "charge", "tea", 7)]
        random.shuffle(events)
        folios.append(Folio(events))
    return folios


class TestWhole(Case):
    def test_what_a_desk_sells_is_kept_in_every_course(self):
        random = Random(1)
        moving = 0
        for _ in range(60):
            desk = used_desk(random, 14)
            house = desk.present_house
            plan, found = house.plan, house.verdict()
            self.assertTrue(is_shown(plan, found))
            self.assertIsNone(first_breach(plan, found.moved))
            moving += len(found.moved) > 0
            courses = list(all_courses(plan))
            for comers, sales in random.sample(courses, min(20, len(courses))):
                course = Course(comers, sales)
                self.assertTrue(course_keeps(plan, course, found.moved))
                wishes = [random.randrange(9) for _ in range(random.randrange(5))]
                log = run_course(plan, course, found.moved, wishes)
                self.assertTrue(is_room_plan(house_spans(plan, course, found.moved), plan.rooms, rooms_in_log(log)))
                self.assertLessEqual(peak(annex_spans(plan, found.moved))[0], plan.annex)
                for row, worst in zip(course_report(plan, course, found.moved), worst_rows(plan)):
                    self.assertTrue(row[4] <= sum(worst[1:5]) and row[5] >= 0)
                    house_names, annex_names = house_lists(plan, course, found.moved, row[0])
                    self.assertEqual(set(annex_names) - set(house.moved()), set())
                    self.assertEqual(len(house_names) + len(annex_names), worst[1])
        self.assertTrue(moving > 10)

    def test_what_a_desk_did_comes_back(self):
        random = Random(2)
        for _ in range(60):
            desk = used_desk(random, 14)
            plan = desk.present_house.plan
            self.assertTrue(parse_plan(desk.execute("note")) == plan)
            again = replayed(plan.rooms, plan.annex, desk.history.journal)
            self.assertTrue(again.house.plan == plan and again.deeds == desk.history.deeds)
            other = Desk(plan.rooms, plan.annex)
            other.execute_all(desk.log)
            self.assertTrue(other.present_house.plan == plan and other.log == desk.log)
            try:
                tried(desk.present_house, [random_deed(random, 4), random_deed(random, 4)])
            except KeptError:
                pass
            self.assertTrue(desk.present_house.plan == plan)

    def test_bills_days_audits_and_reports_of_the_same_stays(self):
        random = Random(3)
        rules = Rules([Offer("plain", [10] * 7)], Policy([], 0, 0), Taxes(1, 10))
        for _ in range(40):
            plan = random_plan(random, random.choice((0, 5)), 5)
            course = Course(*random.choice(list(all_courses(plan))[:99]))
            spans = house_spans(plan, course, ())
            folios = folios_of(spans, random)
            rows = course_report(plan, course, ())
            for row in rows:
                charges = sum(7 for span in spans if span[0] == row[0])
                taxes = sum((10 * (span[1] - span[0]) + 7 + 5) // 10 for span in spans if span[1] - 1 == row[0])
                self.assertEqual(on_day(daily_of(rules, folios), row[0]), 11 * row[4] + charges + taxes)
                self.assertTrue(is_balanced(spans, row[0]))
            audit = Audit(rules)
            for day in sorted(random.sample(range(12), 3)) + [20]:
                audit.close(day, folios)
                self.assertTrue(audit.is_square(folios))
            total = sum(bill(rules, folio).total for folio in folios)
            self.assertEqual((audit.total(), sum(cents for _, cents in daily_of(rules, folios))), (total, total))
            if rows:
                sold = occupancy(spans, plan.rooms, plan.span[0], plan.span[1])[0]
                self.assertEqual(sold, sum(row[4] for row in rows))
                nights = sum(cents for folio in folios for label, cents in bill(rules, folio).lines if label == "nights")
                self.assertEqual(nights, 10 * sold)
            for folio in folios:
                self.assertTrue(bill(rules, parse_folio(format_folio(folio))) == bill(rules, folio))

    def test_an_annex_is_another_house_with_nothing_sold(self):
        random = Random(4)
        relieved = 0
        for _ in range(150):
            plan = random_plan(random, random.choice((0, 5)))
            annex = least_annex(with_rooms(plan, plan.rooms, 0))
            if annex is None or plan.annex_stays:
                continue
            for rooms in (annex, annex - 1):
                if rooms >= 0:
                    self.assertIs(relief_to(plan, Plan(rooms, 0, [])).cost is not None, rooms == annex)
                    relieved += 1
            house = least_house(plan)
            self.assertTrue(house is not None and house <= max([plan.worst(night) for night in plan.nights()] + [0]))
        self.assertTrue(relieved > 50)
