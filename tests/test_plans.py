"""Point 23: plans."""

from keptnights.channels import Channel
from keptnights.errors import BadItem, BadName, BadNumber, Taken, TooMany
from keptnights.groups import Group
from keptnights.plans import Plan
from tests.support import NO_NAMES, NO_NUMBERS, NO_SEQUENCES, NO_SPANS, Case

SINGLES = (("ann", (10, 12), None), ("bob", (11, 13), 30), ("cy", (12, 14), 0))
HERD = Group("herd", [(11, 13), (12, 15)], 1, 2, 1, 2)
WEB = Channel("web", [((9, 11), 2), ((13, 14), 1)], 1)


def full_plan():
    return Plan(2, 3, SINGLES, [HERD], [WEB], [(12, 13)], [(11, 12), (11, 14)])


class TestPlans(Case):
    def test_fields(self):
        plan = full_plan()
        upkeep, annex_stays = ((12, 13),), ((11, 12), (11, 14))
        self.assertEqual((plan.rooms, plan.annex, plan.singles, plan.upkeep, plan.annex_stays),
                         (2, 3, SINGLES, upkeep, annex_stays))
        self.assertEqual((plan.groups, plan.channels), ((HERD,), (WEB,)))
        self.assertEqual(plan.fields(), (2, 3, SINGLES, (HERD.fields(),), (WEB.fields(),), upkeep, annex_stays))
        self.assertEqual(plan.span, (9, 17))
        self.assertEqual(plan.nights(), tuple(range(9, 17)))

    def test_lists_and_tuples_by_position_and_by_name(self):
        plan = self.ask(Plan, 2, 3, SINGLES, (HERD,), (WEB,), ((12, 13),), ((11, 12), (11, 14)))
        self.assertEqual(plan, full_plan())
        self.assertEqual(self.ask(Plan, 1, 1, SINGLES).fields(), (1, 1, SINGLES, (), (), (), ()))

    def test_no_nights(self):
        plan = Plan(0, 0, [])
        self.assertIsNone(plan.span)
        self.assertEqual((plan.nights(), plan.needs(), plan.free(), plan.stays()), ((), (), (), ()))
        self.assertEqual((plan.worst(3), plan.annex_load(3)), (0, 0))
        self.assertEqual(Plan(0, 0, [], [Group("a", [], 0, 0, 0, 7)], [Channel("b", [])]).span, None)

    def test_counts_of_nights(self):
        plan = full_plan()
        worst = []
        for night in range(9, 17):
            singles = sum(first <= night < leave for _, (first, leave), _ in SINGLES)
            worst.append(singles + (night == 12) + HERD.worst(night) + WEB.worst(night))
            self.assertEqual(self.ask(plan.worst, night), worst[-1])
        self.assertEqual(worst, [2, 3, 3, 5, 4, 2, 1, 1])
        self.assertEqual(self.ask(plan.needs), (0, 1, 1, 3, 2, 0, 0, 0))
        self.assertEqual([self.ask(plan.annex_load, night) for night in range(10, 15)], [0, 2, 1, 1, 0])
        self.assertEqual(self.ask(plan.free), (3, 3, 1, 2, 2, 3, 3, 3))
        self.assertEqual(self.ask(plan.stays), (((1, 3), None), ((2, 4), 30), ((3, 5), 0)))

    def test_the_span_has_all_that_is_passed(self):
        for plan, span in ((Plan(1, 1, [("a", (3, 5), 0)]), (3, 5)),
                           (Plan(1, 1, [], [Group("a", [(3, 5)], 0, 1, 0, 2)]), (3, 7)),
                           (Plan(1, 1, [], [Group("a", [(3, 5), (1, 4)], 0, 0, 0, 7)]), (1, 12)),
                           (Plan(1, 1, [], [], [Channel("a", [((3, 4), 0), ((7, 9), 1)])]), (3, 9)),
                           (Plan(1, 1, [], [], [], [(4, 6), (8, 9)]), (4, 9)),
                           (Plan(1, 1, [], [], [], [], [(4, 6), (1, 2)]), (1, 6))):
            self.assertEqual(plan.span, span)

    def test_the_annex_can_be_too_small(self):
        self.assertEqual(Plan(0, 1, [], annex_stays=[(0, 1)] * 3).free(), (-2,))

    def test_equal(self):
        self.assertTrue(full_plan() == full_plan())
        self.assertFalse(full_plan() != full_plan())
        plan = Plan(1, 1, SINGLES)
        for other in (Plan(2, 1, SINGLES), Plan(1, 2, SINGLES), Plan(1, 1, SINGLES[::-1]), Plan(1, 1, SINGLES, [HERD]),
                      Plan(1, 1, SINGLES, [], [WEB]), Plan(1, 1, SINGLES, upkeep=[(10, 11)]),
                      Plan(1, 1, SINGLES, annex_stays=[(10, 11)]), plan.fields(), None, 1):
            self.assertFalse(plan == other)
            self.assertTrue(plan != other)

    def test_copies(self):
        singles, groups, channels, upkeep, stays = [["a", [0, 2], 1]], [HERD], [WEB], [[12, 13]], [[11, 12]]
        plan = Plan(1, 1, singles, groups, channels, upkeep, stays)
        before = plan.fields()
        singles[0][1][1] = 5
        singles.append(["b", [0, 1], None])
        groups.append(HERD)
        channels.clear()
        upkeep[0][0] = 1
        stays[0] = None
        self.assertEqual(plan.fields(), before)

    def test_a_changed_group_or_channel_has_no_effect(self):
        group, channel = Group("a", [(0, 1)], 0, 1), Channel("b", [((0, 1), 1)])
        plan = Plan(1, 1, [], [group], [channel])
        group.most, channel.counts = 0, ()
        self.assertEqual(plan.worst(0), 2)

    def test_wrong_numbers_come_first(self):
        for value in NO_NUMBERS + (-1, 401):
            self.refuse(BadNumber, (value,), Plan, value, "annex", None, None, None, None, None)
            self.refuse(BadNumber, (value,), Plan, 400, value, None, None, None, None, None)

    def test_wrong_singles(self):
        for value in NO_SEQUENCES:
            self.refuse(BadItem, (None,), Plan, 0, 0, value, None, None, None, None)
        wrong = [(name, (0, 1), None) for name in NO_NAMES] + [("a", span, None) for span in NO_SPANS]
        wrong += [("a", (0, 1), cost) for cost in NO_NUMBERS + (-1, 10000) if cost is not None]
        wrong += [None, "abc", (), ("a", (0, 1)), ("a", (0, 1), 1, 1), {"a": 1}]
        for value in wrong:
            self.refuse(BadItem, (1,), Plan, 0, 0, [("b", (0, 1), 9999), value], None, None, None, None)

    def test_wrong_sequences_in_the_order_of_the_parameters(self):
        group, channel = Group("a", [], 0, 0), Channel("b", [])
        right = [[], [group], [channel], [(0, 1)], [(0, 1)]]
        for place in range(5):
            for value in NO_SEQUENCES:
                args = right[:place] + [value] + [7] * (4 - place)
                self.refuse(BadItem, (None,), Plan, 0, 0, *args)
            for value in (None, 1, "a", (3, 2), HERD.fields(), WEB.fields(), [HERD], Plan):
                args = right[:place] + [right[place] + [value]] + [7] * (4 - place)
                self.refuse(BadItem, (len(right[place]),), Plan, 0, 0, *args)
        self.refuse(BadItem, (0,), Plan, 0, 0, [], [channel])
        self.refuse(BadItem, (0,), Plan, 0, 0, [], [], [group])

    def test_too_many(self):
        singles = [(f"s{k}", (0, 90), None) for k in range(61)]
        groups = [Group(f"g{k}", [], 0, 0) for k in range(9)]
        channels = [Channel(f"c{k}", []) for k in range(9)]
        spans = [(0, 1)] * 61
        plan = Plan(400, 400, singles[:60], groups[:8], channels[:8], spans[:60], spans[:60])
        self.assertEqual(len(plan.nights()), 90)
        self.refuse(TooMany, (60,), Plan, 0, 0, singles, None, None, None, None)
        self.refuse(TooMany, (8,), Plan, 0, 0, [], groups, None, None, None)
        self.refuse(TooMany, (8,), Plan, 0, 0, [], [], channels, None, None)
        self.refuse(TooMany, (60,), Plan, 0, 0, [], [], [], spans, None)
        self.refuse(TooMany, (60,), Plan, 0, 0, [], [], [], [], spans)
        self.refuse(BadItem, (61,), Plan, 0, 0, singles + [0], None, None, None, None)

    def test_names_that_stand_twice(self):
        groups, channels = [Group("g", [], 0, 0), Group("x", [], 0, 0)], [Channel("c", []), Channel("g", [])]
        singles = [("a", (0, 99), 1), ("b", (0, 1), 1), ("c", (0, 1), 1)]
        self.refuse(Taken, ("c",), Plan, 0, 0, singles, groups, channels)
        self.refuse(Taken, ("g",), Plan, 0, 0, singles[:2], groups, channels)
        self.refuse(Taken, ("x",), Plan, 0, 0, [], groups + [groups[1]], channels[:1])
        self.refuse(Taken, ("c",), Plan, 0, 0, [], groups, [channels[0], channels[0]])
        self.refuse(Taken, ("b",), Plan, 0, 0, singles[:2] + [singles[1]])
        self.refuse(BadItem, (0,), Plan, 0, 0, singles[:2] + [singles[1]], [], [], [], [None])

    def test_at_most_90_nights(self):
        self.assertEqual(Plan(1, 1, [("a", (0, 90), 1)]).span, (0, 90))
        self.refuse(TooMany, (90,), Plan, 1, 1, [("a", (0, 91), 1)])
        self.refuse(TooMany, (90,), Plan, 1, 1, [("a", (0, 84), 1)], [Group("g", [(83, 84)], 0, 0, 0, 7)])
        self.refuse(TooMany, (90,), Plan, 1, 1, [("a", (0, 1), 1)], [], [Channel("c", [((90, 91), 0)])])
        self.refuse(TooMany, (90,), Plan, 1, 1, [("a", (0, 1), 1)], [], [], [(90, 91)])
        self.refuse(TooMany, (90,), Plan, 1, 1, [("a", (0, 1), 1)], [], [], [], [(90, 91)])

    def test_names_are_looked_at_as_items(self):
        with self.assertRaises(BadItem):
            Plan(1, 1, [("A", (0, 1), 1)])
        with self.assertRaises(BadName):
            Group("A", [], 0, 0)
