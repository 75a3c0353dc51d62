"""Point 50: houses."""

from random import Random

from keptnights.channels import Channel
from keptnights.courses import Course, course_keeps, house_spans
from keptnights.errors import BadItem, BadName, BadNumber, BadSpan, Refused, Taken, TooMany, Unknown
from keptnights.frontdesk import rooms_in_log, run_course
from keptnights.groups import Group
from keptnights.houses import House
from keptnights.plans import Plan
from keptnights.roomplans import is_room_plan
from keptnights.verdicts import verdict
from tests.deeds import names_of, plan_behind, random_deed
from tests.support import NO_NAMES, NO_NUMBERS, NO_SPANS, Case
from tests.trials import all_courses

HERD = Group("herd", [(0, 2), (1, 3)], 1, 2)
AGENT = Channel("agent", [((0, 3), 1)])


def call_of(house, deed):
    """The method of a house that does a deed, and its arguments."""
    method = {"sell": house.sell, "cancel": house.cancel, "bring": house.bring, "open": house.open_channel,
              "upkeep": house.keep_up, "lend": house.lend}[deed[0]]
    return (method,) + tuple(deed[1:])


def state_of(house):
    return (house.plan.fields(), house.names, house.moved(), house.cost())


def name_of(deed):
    return getattr(deed[1], "name", deed[1])


class TestHouses(Case):
    def test_all_deeds_against_the_plans_that_they_make(self):
        random = Random(50)
        counts = {"taken": 0, "unknown": 0, "cut": 0, "kept": 0, "replaced": 0, "moved": 0}
        for _ in range(120):
            house = House(random.randrange(4), random.randrange(3))
            for _ in range(20):
                deed = random_deed(random)
                before, old = state_of(house), house.plan
                plan = plan_behind(old, deed)
                if isinstance(plan, str):
                    counts[plan] += 1
                    self.refuse({"taken": Taken, "unknown": Unknown}[plan], (name_of(deed),), *call_of(house, deed))
                    self.assertEqual(state_of(house), before)
                    continue
                shown = verdict(plan)
                counts[shown.word] += 1
                if shown.word == "cut":
                    self.refuse(Refused, ("cut", shown.plus[0]), *call_of(house, deed))
                    self.assertEqual(state_of(house), before)
                else:
                    method, *args = call_of(house, deed)
                    moved = tuple(plan.singles[k][0] for k in shown.moved)
                    self.assertEqual(method(*args), moved)
                    self.assertTrue(house.plan == plan)
                    counts["replaced"] += deed[0] == "open" and len(plan.channels) == len(old.channels)
                    counts["moved"] += len(moved) > 0
                self.assertEqual(house.names, tuple(names_of(house.plan)))
                found = house.verdict()
                self.assertEqual((found.word, house.cost()), ("kept", found.cost))
                self.assertEqual(house.moved(), tuple(house.plan.singles[k][0] for k in found.moved))
                for name in ("ann", "bob", "zoe"):
                    self.assertIs(name in house, name in names_of(house.plan))
                if deed[0] == "sell":
                    self.check_could_sell(house, deed[2], deed[3])
        self.assertTrue(min(counts.values()) > 20, counts)

    def check_could_sell(self, house, span, cost):
        before = state_of(house)
        could = self.ask(house.could_sell, span, cost)
        self.assertEqual(state_of(house), before)
        plan = house.plan
        more = Plan(plan.rooms, plan.annex, list(plan.singles) + [("zoe", span, cost)], plan.groups, plan.channels,
                    plan.upkeep, plan.annex_stays)
        self.assertIs(could, verdict(more).word == "kept")
        if cost is None:
            self.assertIs(house.could_sell(span), could)

    def test_a_house_is_kept_in_every_course(self):
        random = Random(500)
        for _ in range(40):
            house = House(random.randint(1, 3), random.randrange(3))
            for _ in range(8):
                deed = random_deed(random, 4)
                if not isinstance(plan_behind(house.plan, deed), str):
                    try:
                        method, *args = call_of(house, deed)
                        method(*args)
                    except Refused:
                        pass
            plan = house.plan
            moved = house.verdict().moved
            courses = [Course(comers, sales) for comers, sales in all_courses(plan)]
            for course in random.sample(courses, min(25, len(courses))):
                self.assertTrue(course_keeps(plan, course, moved))
                log = run_course(plan, course, moved, [random.randrange(9) for _ in range(random.randrange(4))])
                self.assertTrue(is_room_plan(house_spans(plan, course, moved), plan.rooms, rooms_in_log(log)))

    def test_a_house_with_nothing_sold(self):
        house = self.ask(House, 3, 1)
        self.assertTrue(house.plan == Plan(3, 1, []))
        self.assertEqual((house.names, house.moved(), house.cost(), "ann" in house), ((), (), 0, False))
        self.assertEqual((house.verdict().word, house.could_sell((0, 1)), House(0, 0).could_sell((0, 1))), ("kept", True, False))
        self.refuse(Unknown, ("ann",), house.cancel, "ann")
        for value in NO_NUMBERS + (-1, 401):
            self.refuse(BadNumber, (value,), House, value, None)
            self.refuse(BadNumber, (value,), House, 400, value)

    def test_deeds_by_name(self):
        house = House(rooms=2, annex=1)
        self.assertEqual(house.sell(name="ann", span=[0, 3], cost=5), ())
        self.assertEqual(house.bring(group=HERD), ("ann",))
        self.assertEqual((house.names, house.cost(), house.moved()), (("ann", "herd"), 5, ("ann",)))
        self.assertEqual((house.keep_up(span=(3, 4)), house.lend(span=[4, 5])), (("ann",), ("ann",)))
        self.assertEqual(house.cancel(name="herd"), ())
        self.assertEqual(house.open_channel(channel=AGENT), ())
        self.assertTrue(house.plan == Plan(2, 1, [("ann", (0, 3), 5)], (), [AGENT], [(3, 4)], [(4, 5)]))
        self.assertIs(house.could_sell(cost=None, span=(0, 1)), True)
        self.assertIs(house.could_sell((4, 5), 7), True)

    def test_a_channel_that_takes_the_place_of_another_one(self):
        house = House(3, 0)
        web = Channel("web", [((0, 1), 1)])
        house.open_channel(AGENT)
        house.open_channel(web)
        other = Channel("agent", [((5, 6), 2)], 1)
        house.open_channel(other)
        self.assertTrue(house.plan == Plan(3, 0, [], (), [web, other]))
        self.refuse(Refused, ("cut", 0), house.open_channel, Channel("agent", [((0, 1), 3)]))
        self.assertTrue(house.plan == Plan(3, 0, [], (), [web, other]))
        house.open_channel(web)
        self.assertEqual(house.names, ("agent", "web"))
        house.bring(HERD)
        self.refuse(Taken, ("herd",), house.open_channel, Channel("herd", []))
        self.refuse(Taken, ("agent",), house.bring, Group("agent", [], 0, 0))
        for _ in range(8):
            house.open_channel(web)
        self.assertEqual(house.names, ("herd", "agent", "web"))

    def test_names(self):
        house = House(9, 0)
        house.sell("ann", (0, 1))
        house.bring(HERD)
        house.open_channel(AGENT)
        for name in ("ann", "herd", "agent"):
            self.refuse(Taken, (name,), house.sell, name, None)
            self.refuse(Taken, (name,), house.sell, name, (0, 1), -5)
            self.refuse(Taken, (name,), house.bring, Group(name, [], 0, 0))
            self.assertTrue(name in house)
        self.refuse(Taken, ("ann",), house.open_channel, Channel("ann", []))
        for name in ("zoe", "", 5):
            self.assertFalse(name in house)
            self.refuse(Unknown, (name,), house.cancel, name)

    def test_the_order_of_the_errors_of_a_sale(self):
        house = House(9, 0)
        house.sell("ann", (0, 1), 3)
        before = state_of(house)
        for value in NO_NAMES:
            self.refuse(BadName, (value,), house.sell, value, None, -1)
        for value in NO_SPANS:
            self.refuse(BadSpan, (value,), house.sell, "bob", value, -1)
            self.refuse(BadSpan, (value,), house.could_sell, value, -1)
            self.refuse(BadSpan, (value,), house.keep_up, value)
            self.refuse(BadSpan, (value,), house.lend, value)
        for cost in (-1, 10000, True, "5", 1.0, [5]):
            self.refuse(BadItem, (1,), house.sell, "bob", (0, 1), cost)
            self.refuse(BadItem, (1,), house.could_sell, (0, 1), cost)
        self.refuse(TooMany, (90,), house.sell, "bob", (90, 91))
        self.refuse(TooMany, (90,), house.could_sell, (50, 91))
        self.refuse(TooMany, (90,), house.keep_up, (100, 101))
        self.refuse(TooMany, (90,), house.lend, (90, 91))
        self.refuse(TooMany, (90,), house.bring, Group("g", [(85, 90)], 0, 0, 0, 1))
        self.refuse(TooMany, (90,), house.open_channel, Channel("c", [((90, 91), 0)]))
        self.assertEqual(state_of(house), before)

    def test_as_many_as_there_can_be(self):
        house = House(400, 60)
        for number in range(60):
            house.sell(f"new{number}", (0, 1), 3)
            house.keep_up((0, 1))
            house.lend((0, 1))
        for number in range(8):
            house.bring(Group(f"g{number}", [(0, 1)], 0, 1))
            house.open_channel(Channel(f"c{number}", [((0, 1), 1)]))
        before = state_of(house)
        self.refuse(TooMany, (60,), house.sell, "zoe", (0, 1))
        self.refuse(TooMany, (60,), house.could_sell, (0, 1))
        self.refuse(TooMany, (60,), house.keep_up, (0, 1))
        self.refuse(TooMany, (60,), house.lend, (0, 1))
        self.refuse(TooMany, (8,), house.bring, Group("zoe", [(0, 1)], 0, 1))
        self.refuse(TooMany, (8,), house.open_channel, Channel("zoe", [((0, 1), 1)]))
        # What is taken is told ahead of what is too much.
        for name in ("new3", "g3", "c3"):
            self.refuse(Taken, (name,), house.sell, name, (0, 1))
            self.refuse(Taken, (name,), house.bring, Group(name, [(0, 1)], 0, 1))
            if name != "c3":
                self.refuse(Taken, (name,), house.open_channel, Channel(name, []))
        self.assertEqual(state_of(house), before)
        house.cancel("new7")
        self.assertIs(house.could_sell((0, 1), 3), True)
        self.assertEqual(house.sell("new7", (0, 1), 3), ())

    def test_what_moves_may_change(self):
        house = House(1, 1)
        self.assertEqual(house.sell("ann", (0, 2), 9), ())
        self.assertEqual(house.sell("bob", (1, 3), 4), ("bob",))
        self.refuse(Refused, ("cut", 1), house.sell, "cy", (1, 2), 1)
        self.refuse(Refused, ("cut", 1), house.lend, (1, 2))
        self.assertEqual(house.lend((2, 3)), ("ann",))
        self.assertEqual((house.moved(), house.cost()), (("ann",), 9))
        self.refuse(Refused, ("cut", 1), house.lend, (0, 1))
        self.assertEqual(house.cancel("bob"), ())

    def test_a_cut_of_several_nights(self):
        house = House(1, 1)
        for number, sale in enumerate((((0, 2), 5), ((1, 3), 5), ((0, 1), None))):
            house.sell(f"n{number}", *sale)
        shown = verdict(Plan(1, 1, house.plan.singles + (("last", (2, 3), None),)))
        # Both stays are needed in the annex, one for night 0 and one for night 2, and meet there at night 1.
        self.assertEqual((shown.plus, shown.minus), ((0, 2), (1,)))
        self.refuse(Refused, ("cut", 0), house.sell, "last", (2, 3))

    def test_copies(self):
        house = House(3, 0)
        span, group = [0, 1], Group("g", [(0, 1)], 0, 1)
        house.sell("ann", span)
        house.bring(group)
        span[1] = 9
        group.name = "other"
        self.assertEqual((house.plan.singles, house.names), ((("ann", (0, 1), None),), ("ann", "g")))
