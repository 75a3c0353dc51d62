"""Point 47: what if."""

from random import Random

from keptnights.channels import Channel
from keptnights.errors import Unknown
from keptnights.groups import Group
from keptnights.plans import Plan
from keptnights.verdicts import verdict
from keptnights.whatif import (bounded, capped, greatest_cap, greatest_most, is_good, least_annex, least_house, most_wanted,
                               relieving_singles, with_channel, with_group, with_rooms, without_single)
from tests.support import Case, random_span
from tests.trials import random_plan

HERD = Group("herd", [(0, 2), (1, 3), (1, 2)], 2, 3, 2, 1)
AGENT = Channel("agent", [((0, 2), 3), ((2, 4), 1)])
SINGLES = [("ann", (0, 2), None), ("bob", (1, 3), 7)]
PLAN = Plan(9, 4, SINGLES, [HERD, Group("flock", [], 0, 0)], [AGENT, Channel("web", [((3, 4), 9)], 1)], [(0, 1)], [(2, 3)])


def kept(plan):
    return verdict(plan).word == "kept"


def lowered(group, most):
    return Group(group.name, group.spans, min(group.least, most), most, min(group.late_guests, most), group.late_nights)


class TestChangedPlans(Case):
    def test_rooms(self):
        changed = self.ask(with_rooms, PLAN, 3, 400)
        self.assertEqual(changed.fields(), (3, 400) + PLAN.fields()[2:])
        self.assertTrue(with_rooms(PLAN, 9, 4) == PLAN)

    def test_groups_and_channels_keep_their_places(self):
        other = Group("other", [(5, 6)], 0, 1)
        changed = self.ask(with_group, PLAN, "herd", other)
        self.assertEqual(changed.fields(), Plan(9, 4, SINGLES, [other, PLAN.groups[1]], PLAN.channels, [(0, 1)], [(2, 3)]).fields())
        web = Channel("web", [], 3)
        changed = self.ask(with_channel, PLAN, "web", web)
        self.assertEqual(changed.fields(), Plan(9, 4, SINGLES, PLAN.groups, [AGENT, web], [(0, 1)], [(2, 3)]).fields())
        self.assertTrue(with_group(PLAN, name="herd", group=HERD) == PLAN == with_channel(PLAN, "agent", channel=AGENT))

    def test_singles(self):
        for index in (0, 1):
            changed = self.ask(without_single, PLAN, index)
            self.assertEqual(changed.singles, tuple(SINGLES[1 - index:2 - index]))
            self.assertEqual(changed.fields()[:2] + changed.fields()[3:], PLAN.fields()[:2] + PLAN.fields()[3:])

    def test_bounded_groups(self):
        for most, fields in ((0, (0, 0, 0)), (1, (1, 1, 1)), (2, (2, 2, 2)), (3, (2, 3, 2))):
            made = self.ask(bounded, HERD, most)
            self.assertEqual(made.fields(), ("herd", HERD.spans) + fields + (1,))
        self.assertEqual(bounded(Group("g", HERD.spans, 0, 1), 3).fields(), ("g", HERD.spans, 0, 3, 0, 0))

    def test_capped_channels(self):
        for most, numbers in ((0, (0, 0)), (1, (1, 1)), (2, (2, 1)), (3, (3, 1)), (400, (3, 1))):
            made = self.ask(capped, AGENT, most)
            self.assertEqual(made.fields(), ("agent", (((0, 2), numbers[0]), ((2, 4), numbers[1])), 1))
        self.assertEqual(capped(Channel("c", [((0, 1), 5)], 9), 4).fields(), ("c", (((0, 1), 4),), 9))


class TestWhatIf(Case):
    def plans(self, many, seed):
        random = Random(seed)
        for _ in range(many):
            yield random_plan(random, random.choice((0, 4)))

    def test_all_numbers_of_rooms(self):
        none = 0
        for plan in self.plans(150, 47):
            wanted = [plan.worst(night) + plan.annex_load(night) for night in plan.nights()]
            self.assertEqual(self.ask(most_wanted, plan), max(wanted, default=0))
            self.assertIs(self.ask(is_good, plan), kept(plan))
            enough = list(range(most_wanted(plan) + 2)) + [400]
            houses = [rooms for rooms in enough if kept(with_rooms(plan, rooms, plan.annex))]
            annexes = [annex for annex in enough if kept(with_rooms(plan, plan.rooms, annex))]
            self.assertEqual(self.ask(least_house, plan), min(houses, default=None))
            self.assertEqual(self.ask(least_annex, plan), min(annexes, default=None))
            none += not houses
            none += not annexes
        self.assertTrue(none > 20)

    def test_no_number_of_rooms_is_enough(self):
        full = Plan(5, 0, [("ann", (0, 2), None)], annex_stays=[(0, 1)])
        self.assertEqual((least_house(full), least_annex(full)), (None, 1))
        stuck = Plan(0, 0, [("ann", (0, 2), None)])
        self.assertEqual((least_house(stuck), least_annex(stuck)), (1, None))
        crowd = Plan(0, 0, [], (), [Channel("a", [((0, 1), 400)])])
        self.assertEqual((least_house(crowd), least_annex(crowd), most_wanted(crowd)), (400, None, 400))
        crowd = Plan(0, 0, [("ann", (0, 1), None)], (), crowd.channels)
        self.assertEqual((least_house(crowd), most_wanted(crowd)), (None, 401))

    def test_the_greatest_numbers_of_groups(self):
        seen = {}
        for plan in self.plans(300, 470):
            for group in plan.groups:
                right = [most for most in range(len(group.spans) + 1)
                         if kept(with_group(plan, group.name, lowered(group, most)))]
                found = self.ask(greatest_most, plan, group.name)
                self.assertEqual(found, max(right, default=None))
                seen[found] = True
        self.assertEqual(set(seen), {None, 0, 1, 2, 3})

    def test_the_greatest_numbers_of_channels(self):
        seen = {}
        for plan in self.plans(400, 471):
            for channel in plan.channels:
                greatest = max([number for _, number in channel.counts], default=0)
                right = [most for most in range(greatest + 1) if kept(with_channel(plan, channel.name, Channel(
                    channel.name, [(span, min(number, most)) for span, number in channel.counts], channel.least_stay)))]
                found = self.ask(greatest_cap, plan, channel.name)
                self.assertEqual(found, max(right, default=None))
                seen[found] = True
        self.assertEqual(set(seen), {None, 0, 1, 2})

    def test_edges_of_the_greatest_numbers(self):
        plan = Plan(1, 0, [], [Group("g", [(0, 1)] * 3, 1, 1), Group("none", [], 0, 0)], [Channel("c", [])])
        # The most may become greater than it was, up to the spans.
        self.assertEqual(greatest_most(plan, "g"), 1)
        self.assertEqual(greatest_most(with_rooms(plan, 3, 0), "g"), 3)
        self.assertEqual((greatest_most(plan, "none"), greatest_cap(plan, "c")), (0, 0))
        late = Plan(1, 0, [("ann", (2, 3), None)], [Group("g", [(0, 2)], 1, 1, 1, 1)])
        self.assertEqual(greatest_most(late, "g"), 0)
        self.assertIsNone(greatest_most(Plan(0, 0, [("ann", (2, 3), None)], late.groups), "g"))
        wide = Plan(300, 0, [], (), [Channel("c", [((0, 1), 400), ((1, 2), 5)])])
        self.assertEqual((greatest_cap(wide, "c"), greatest_cap(with_rooms(wide, 0, 0), "c")), (300, 0))
        self.assertEqual(greatest_cap(with_rooms(wide, 400, 0), "c"), 400)

    def test_relieving_singles(self):
        seen = {}
        for plan in self.plans(300, 472):
            right = []
            for index in range(len(plan.singles)):
                singles = [single for k, single in enumerate(plan.singles) if k != index]
                if kept(Plan(plan.rooms, plan.annex, singles, plan.groups, plan.channels, plan.upkeep, plan.annex_stays)):
                    right.append(index)
            self.assertEqual(self.ask(relieving_singles, plan), tuple(right))
            seen[kept(plan), 0 < len(right) < len(plan.singles)] = True
        self.assertIn((False, True), seen)

    def test_names_that_are_not_there(self):
        for name in ("web", "ann", "cow", "agent"):
            self.refuse(Unknown, (name,), greatest_most, PLAN, name)
        for name in ("herd", "ann", "cow", "flock"):
            self.refuse(Unknown, (name,), greatest_cap, PLAN, name)
        empty = Plan(0, 0, [])
        self.refuse(Unknown, ("herd",), greatest_most, plan=empty, name="herd")
        self.refuse(Unknown, ("web",), greatest_cap, plan=empty, name="web")

    def test_a_plan_without_nights(self):
        empty = Plan(7, 7, [])
        self.assertEqual((least_house(empty), least_annex(empty), most_wanted(empty)), (0, 0, 0))
        self.assertEqual((is_good(empty), relieving_singles(empty)), (True, ()))

    def test_the_largest_plans(self):
        random = Random(473)
        singles = [(f"s{k}", random_span(random, 80, 14), random.choice((None, 9999, 5))) for k in range(60)]
        groups = [Group(f"g{k}", [random_span(random, 80, 9) for _ in range(30)], 5, 25, 9, 7) for k in range(8)]
        parts = [((k, k + 1), random.randrange(60)) for k in range(60)]
        channels = [Channel(f"c{k}", parts, 14 - k) for k in range(8)]
        spans = [random_span(random, 90, 10) for _ in range(60)]
        plan = Plan(40, 30, singles, groups, channels, spans, spans[:20])
        rooms, annex = least_house(plan), least_annex(plan)
        self.assertTrue(is_good(with_rooms(plan, rooms, 30)) and not is_good(with_rooms(plan, rooms - 1, 30)))
        self.assertTrue(annex is None or is_good(with_rooms(plan, 40, annex)))
        self.assertEqual(relieving_singles(with_rooms(plan, 400, 30)), tuple(range(60)))
        self.assertEqual(relieving_singles(with_rooms(plan, rooms - 5, 30)), ())
        for group in plan.groups[:2]:
            self.assertEqual(greatest_most(with_rooms(plan, 400, 30), group.name), 30)
        self.assertEqual(greatest_cap(with_rooms(plan, 400, 30), "c0"), max(number for _, number in parts))
