"""Point 46: the front desk."""

from random import Random

from keptnights.channels import Channel
from keptnights.courses import Course, course_rooms, house_spans, worst_course
from keptnights.errors import BadNumber, Refused, Taken, Unknown
from keptnights.frontdesk import FrontDesk, rooms_in_log, run_course
from keptnights.groups import Group
from keptnights.plans import Plan
from keptnights.roomplans import is_room_plan
from keptnights.verdicts import verdict
from tests.support import NO_NUMBERS, Case, random_span
from tests.trials import all_courses, random_plan


def state_of_desk(desk):
    return (desk.night, desk.free(), desk.log, len(desk))


def log_by_words(spans, rooms, nights, wishes):
    """The log of a course, or the night at which there is no free room."""
    inside, log = {}, []
    for night in nights:
        for guest in [guest for guest in inside if spans[guest][1] == night]:
            del inside[guest]
        for guest, span in enumerate(spans):
            if span[0] == night:
                free = [room for room in range(rooms) if room not in inside.values()]
                if not free:
                    return night
                inside[guest] = free[(wishes[len(log) % len(wishes)] if wishes else 0) % len(free)]
                log.append((night, guest, inside[guest]))
    return tuple(log)


class TestFrontDesk(Case):
    def test_a_few_nights(self):
        desk = FrontDesk(3, 7)
        self.assertEqual((state_of_desk(desk), "ann" in desk), ((7, (0, 1, 2), (), 0), False))
        self.assertEqual((desk.arrive("ann"), desk.arrive(guest="bob", room=2), desk.arrive(5, 1)), (0, 2, 1))
        self.assertEqual((len(desk), desk.free(), desk.room_of("bob"), desk.room_of(guest=5)), (3, (), 2, 1))
        self.assertEqual(("ann" in desk, 5 in desk, "cy" in desk, 6 in desk), (True, True, False, False))
        self.assertEqual((desk.end_night(), desk.night, len(desk)), (8, 8, 3))
        self.assertEqual((desk.leave("bob"), desk.leave(guest="ann"), desk.free()), (2, 0, (0, 2)))
        self.assertEqual((desk.arrive("dan"), desk.arrive("ann", room=2)), (0, 2))
        self.assertEqual(desk.log, ((7, "ann", 0), (7, "bob", 2), (7, 5, 1), (8, "dan", 0), (8, "ann", 2)))
        for guest in ("dan", "ann", 5):
            desk.leave(guest)
        # A night that ends with an empty house is a night as well.
        self.assertEqual((desk.end_night(), desk.end_night(), desk.free(), len(desk)), (9, 10, (0, 1, 2), 0))

    def test_guests_that_are_numbers_and_strings(self):
        desk = FrontDesk(2)
        desk.arrive("1")
        desk.arrive(1)
        self.assertEqual((desk.room_of("1"), desk.room_of(1), desk.log), (0, 1, ((0, "1", 0), (0, 1, 1))))

    def test_what_is_refused(self):
        desk = FrontDesk(2, 4)
        desk.arrive("ann", 1)
        before = state_of_desk(desk)
        for room in (1, 2, -1, 400):
            self.refuse(Refused, ("busy", 4), desk.arrive, "bob", room)
            self.refuse(Taken, ("ann",), desk.arrive, "ann", room)
        self.refuse(Taken, ("ann",), desk.arrive, "ann")
        for guest in ("bob", 0, 1):
            self.refuse(Unknown, (guest,), desk.leave, guest)
            self.refuse(Unknown, (guest,), desk.room_of, guest)
        self.assertEqual(state_of_desk(desk), before)
        desk.arrive("bob", 0)
        desk.end_night()
        before = state_of_desk(desk)
        for room in (None, 0, 9):
            self.refuse(Refused, ("full", 5), desk.arrive, "cy", room)
            self.refuse(Taken, ("ann",), desk.arrive, "ann", room)
        self.assertEqual(state_of_desk(desk), before)
        self.refuse(Refused, ("full", 0), FrontDesk(0).arrive, "ann")

    def test_wrong_numbers(self):
        for value in NO_NUMBERS + (-1, 401):
            self.refuse(BadNumber, (value,), FrontDesk, value, None)
        for value in NO_NUMBERS + (-1, 100000):
            self.refuse(BadNumber, (value,), FrontDesk, 400, value)
        self.assertEqual((FrontDesk(400, 99999).free(), FrontDesk(night=3, rooms=0).night), (tuple(range(400)), 3))

    def test_random_days(self):
        random = Random(46)
        for _ in range(60):
            rooms = random.randrange(5)
            desk, inside = FrontDesk(rooms, 3), {}
            for step in range(40):
                guest, room = random.randrange(6), random.choice((None, 0, 1, 2, 3, 4))
                free = [k for k in range(rooms) if k not in inside.values()]
                if random.random() < 0.3 and guest in inside:
                    self.assertEqual(desk.leave(guest), inside.pop(guest))
                elif random.random() < 0.1:
                    desk.end_night()
                elif guest in inside:
                    self.refuse(Taken, (guest,), desk.arrive, guest, room)
                elif not free or room not in [None] + free:
                    self.refuse(Refused, ("busy" if free else "full", desk.night), desk.arrive, guest, room)
                else:
                    inside[guest] = desk.arrive(guest, room)
                    self.assertEqual(inside[guest], free[0] if room is None else room)
                    self.assertEqual(desk.log[-1], (desk.night, guest, inside[guest]))
                self.assertEqual((len(desk), {one: desk.room_of(one) for one in inside}), (len(inside), inside))


class TestCourses(Case):
    def test_against_the_words_of_the_point(self):
        random = Random(460)
        full = 0
        for _ in range(250):
            plan = random_plan(random, random.choice((0, 5)))
            course = Course(*random.choice(list(all_courses(plan))[:200]))
            moved = [k for k in range(len(plan.singles)) if random.random() < 0.4]
            spans = house_spans(plan, course, moved)
            for wishes in ((), (0,), (1, 0, 5), [random.randrange(50) for _ in range(7)]):
                log = log_by_words(spans, plan.rooms, plan.nights(), wishes)
                if isinstance(log, int):
                    full += 1
                    self.refuse(Refused, ("full", log), run_course, plan, course, moved, wishes)
                else:
                    self.assertEqual(self.ask(run_course, plan, course, moved, wishes), log)
                    rooms = self.ask(rooms_in_log, log)
                    self.assertTrue(is_room_plan(spans, plan.rooms, rooms))
                    self.assertEqual(rooms, tuple(room for _, room in sorted((guest, room) for _, guest, room in log)))
                    if not wishes:
                        self.assertEqual(run_course(plan, course, moved), log)
                        self.assertEqual(rooms, course_rooms(plan, course, moved))
        self.assertTrue(full > 30, full)

    def test_kept_plans_give_rooms_by_any_wishes(self):
        random = Random(461)
        kept = 0
        for _ in range(80):
            plan = random_plan(random)
            found = verdict(plan)
            if found.word == "kept":
                kept += 1
                for comers, sales in list(all_courses(plan))[:40]:
                    wishes = [random.randrange(9) for _ in range(random.randrange(4))]
                    log = run_course(plan, Course(comers, sales), found.moved, wishes)
                    spans = house_spans(plan, Course(comers, sales), found.moved)
                    self.assertTrue(is_room_plan(spans, plan.rooms, rooms_in_log(log)))
        self.assertTrue(kept > 20)

    def test_a_course_with_more_guests_than_rooms(self):
        plan = Plan(1, 1, [("ann", (3, 5), 9), ("bob", (4, 6), 9)])
        self.refuse(Refused, ("full", 4), run_course, plan, Course((), ()), ())
        self.assertEqual(run_course(plan, Course((), ()), [0]), ((4, 0, 0),))
        self.assertEqual(run_course(plan, Course((), ()), [1], wishes=[7]), ((3, 0, 0),))
        plan = Plan(1, 1, [("ann", (3, 5), 9), ("bob", (5, 6), 9)])
        self.assertEqual(run_course(plan, Course((), ()), ()), ((3, 0, 0), (5, 1, 0)))

    def test_a_plan_without_nights(self):
        self.assertEqual(run_course(Plan(0, 0, []), Course((), ()), ()), ())
        self.assertEqual((self.ask(rooms_in_log, ()), rooms_in_log([[4, 1, 8], [5, 0, 7]])), ((), (7, 8)))

    def test_the_largest_course(self):
        random = Random(462)
        singles = [(f"s{k}", random_span(random, 80, 14), 5) for k in range(60)]
        groups = [Group(f"g{k}", [random_span(random, 80, 9) for _ in range(30)], 5, 25, 9, 7) for k in range(8)]
        channels = [Channel("c", [((k, k + 1), 100) for k in range(60)])]
        plan = Plan(400, 30, singles, groups, channels, [random_span(random, 90, 10) for _ in range(60)])
        course = worst_course(plan, 40)
        sales = [(k, k + 1) for k in range(60) for _ in range(100)]
        log = run_course(plan, Course(course.comers, [sales]), (), [random.randrange(400) for _ in range(31)])
        spans = house_spans(plan, Course(course.comers, [sales]), ())
        self.assertTrue(is_room_plan(spans, 400, rooms_in_log(log)))
