"""Point 48: houses of a chain help each other."""

from random import Random

from keptnights.errors import Taken, Unknown
from keptnights.groups import Group
from keptnights.plans import Plan
from keptnights.relief import Chain, Relief, common_nights, needs_at, relief_to, spare_at
from tests.support import Case, random_span
from tests.trials import cuts, loads, random_plan, shows_least, subsets

FIELDS = ("moved", "cost", "ups", "downs", "plus", "minus")


def values_of(answer):
    return [getattr(answer, name) for name in FIELDS]


def nights_by_words(one, other):
    nights = list(one.nights()) + list(other.nights())
    return tuple(range(min(nights), max(nights) + 1)) if nights else ()


def costs_by_words(one, other):
    """What all sets of singles cost that can move so that both houses have enough rooms in every course."""
    nights = nights_by_words(one, other)
    found = []
    for some in subsets(len(one.singles)):
        if all(one.singles[k][2] is not None for k in some):
            covers = loads([one.singles[k][1] for k in some], nights)
            fits = [one.worst(night) - many <= one.rooms and other.worst(night) + many <= other.rooms
                    for night, many in zip(nights, covers)]
            if all(fits):
                found.append((sum(one.singles[k][2] for k in some), some))
    return found


def random_pair(random):
    return random_plan(random, random.choice((0, 3, 9))), random_plan(random, random.choice((0, 3, 5, 20)), random.choice((2, 4)))


class TestRelief(Case):
    def test_against_all_moves(self):
        random = Random(48)
        words = {True: 0, False: 0}
        for _ in range(600):
            one, other = random_pair(random)
            nights = self.ask(common_nights, one, other)
            self.assertEqual(nights, nights_by_words(one, other))
            self.assertEqual(self.ask(needs_at, one, nights), tuple(max(0, one.worst(k) - one.rooms) for k in nights))
            self.assertEqual(self.ask(spare_at, other, nights), tuple(other.rooms - other.worst(k) for k in nights))
            found = self.ask(relief_to, one, other)
            costs = costs_by_words(one, other)
            words[bool(costs)] += 1
            able = [k for k, single in enumerate(one.singles) if single[2] is not None]
            spans = [tuple(night - nights[0] for night in one.singles[k][1]) for k in able]
            lows, highs = needs_at(one, nights), spare_at(other, nights)
            if costs:
                self.assertEqual((found.cost, found.plus, found.minus), (min(costs)[0], None, None))
                self.assertIn((found.cost, found.moved), costs)
                chosen = [able.index(k) for k in found.moved]
                prices = [one.singles[k][2] for k in able]
                self.assertEqual((len(found.ups), len(found.downs)), (len(nights), len(nights)))
                self.assertTrue(shows_least(lows, highs, spans, prices, chosen, found.ups, found.downs))
            else:
                self.assertEqual(values_of(found)[:4], [None] * 4)
                self.assertLessEqual(set(found.plus + found.minus), set(nights))
                plus, minus = [[night - nights[0] for night in row] for row in (found.plus, found.minus)]
                self.assertTrue(cuts(lows, highs, spans, plus, minus))
        self.assertTrue(min(words.values()) > 100, words)

    def test_plans_without_a_common_night(self):
        one = Plan(1, 9, [("ann", (3, 5), 7), ("bob", (4, 5), 9)])
        for start in (0, 5, 9, 36000):
            other = Plan(1, 0, [("cy", (start, start + 2), None)])
            found = relief_to(one, other)
            self.assertEqual((found.moved, found.cost), ((0,), 7))
            first = min(3, start)
            self.assertEqual((len(found.ups), common_nights(one, other)[0]), (max(5, start + 2) - first, first))
            self.assertEqual([first + k for k, up in enumerate(found.ups) if up], [4])

    def test_plans_without_nights(self):
        empty = Plan(1, 0, [])
        self.assertEqual((self.ask(common_nights, empty, empty), values_of(relief_to(empty, empty))), ((), [(), 0, (), (), None, None]))
        one = Plan(0, 0, [("ann", (3, 5), 7)])
        self.assertEqual((relief_to(one, empty).moved, common_nights(one, empty), common_nights(empty, one)), ((0,), (3, 4), (3, 4)))
        self.assertEqual(values_of(relief_to(empty, one))[4:], [(3,), (3,)])
        self.assertEqual((needs_at(empty, [5, 6]), spare_at(empty, [5, 6]), needs_at(one, [2, 3, 5])), ((0, 0), (1, 1), (0, 1, 0)))

    def test_no_singles_and_singles_that_cannot_move(self):
        house = Plan(5, 0, [])
        self.assertEqual(relief_to(Plan(0, 9, [("ann", (3, 5), None)]), house).plus, (3,))
        self.assertEqual(relief_to(Plan(0, 9, [], upkeep=[(3, 5)]), house).plus, (3,))
        self.assertEqual(relief_to(Plan(1, 9, [], upkeep=[(3, 5)]), house).moved, ())

    def test_the_annexes_are_not_used(self):
        one = Plan(1, 5, [("ann", (3, 5), 7), ("bob", (3, 5), 2)])
        full = Plan(1, 5, [("cy", (4, 5), 0)], annex_stays=[(3, 4)] * 9)
        self.assertEqual(relief_to(one, full).cost, None)
        self.assertEqual(relief_to(one, Plan(1, 0, [], annex_stays=[(3, 4)] * 9)).cost, 2)

    def test_the_fields(self):
        made = self.ask(Relief, [0, 1], 5, [1, 0], [0, 0], None, None)
        self.assertEqual(values_of(made), [(0, 1), 5, (1, 0), (0, 0), None, None])
        made = Relief(None, None, None, None, minus=[3], plus=[])
        self.assertEqual(values_of(made), [None, None, None, None, (), (3,)])

    def test_the_longest_nights_between_two_plans(self):
        random = Random(480)
        singles = [(f"s{k}", random_span(random, 80, 14), random.choice((None, 9999, 5))) for k in range(60)]
        groups = [Group(f"g{k}", [random_span(random, 80, 9) for _ in range(30)], 5, 25, 9, 7) for k in range(8)]
        one = Plan(60, 0, singles, groups)
        far = Plan(30, 0, [("last", (36500, 36525), 3)])
        found = relief_to(one, far)
        self.assertEqual(len(common_nights(one, far)), 36525 - one.span[0])
        self.assertTrue(found.cost is not None or found.plus)
        self.assertEqual((relief_to(far, one).cost, len(relief_to(far, one).ups)), (0, 36525 - one.span[0]))


class TestChains(Case):
    def chain_of(self, plans):
        chain = Chain()
        for name, plan in plans:
            self.assertIsNone(chain.add_house(name, plan))
        return chain

    def test_against_the_reliefs(self):
        random = Random(481)
        best = 0
        for _ in range(100):
            names = random.sample(("ox", "elk", "cow", "bee", "ant"), random.randint(1, 4))
            plans = {name: random_plan(random, random.choice((0, 2))) for name in names}
            chain = self.chain_of(plans.items())
            self.assertEqual(chain.names, tuple(sorted(names)))
            for name in names:
                self.assertTrue(chain.plan_of(name) == plans[name])
                costs = [(relief_to(plans[name], plans[other]).cost, other) for other in names if other != name]
                costs = sorted(pair for pair in costs if pair[0] is not None)
                self.assertEqual(self.ask(chain.reliefs, name), tuple(costs))
                if not costs:
                    self.assertIsNone(self.ask(chain.best_relief, name))
                else:
                    best += 1
                    other, moved, cost = self.ask(chain.best_relief, name)
                    self.assertEqual((cost, other), costs[0])
                    self.assertEqual(moved, relief_to(plans[name], plans[other]).moved)
            for span in ((0, 1), (1, 4), (3, 9), (20, 21)):
                takers = [name for name in sorted(names) if all(plans[name].worst(k) < plans[name].rooms for k in range(*span))]
                self.assertEqual(self.ask(chain.takers, span), tuple(takers))
        self.assertTrue(best > 30)

    def test_a_chain_of_one_house_and_of_none(self):
        self.assertEqual((Chain().names, Chain().takers((0, 1))), ((), ()))
        chain = self.chain_of([("ox", Plan(2, 0, []))])
        self.assertEqual((chain.reliefs("ox"), chain.best_relief("ox"), chain.names), ((), None, ("ox",)))
        self.assertEqual(chain.takers((0, 36525)), ("ox",))

    def test_ties(self):
        needy = Plan(0, 0, [("ann", (0, 1), 5)])
        chain = self.chain_of([("needy", needy), ("c", Plan(1, 0, [])), ("a", Plan(1, 0, [])), ("b", Plan(9, 0, []))])
        self.assertEqual(chain.reliefs("needy"), ((5, "a"), (5, "b"), (5, "c")))
        self.assertEqual(chain.best_relief("needy"), ("a", (0,), 5))
        self.assertEqual(chain.reliefs("a"), ((0, "b"), (0, "c")))

    def test_a_dearer_relief_behind_a_cheaper_one(self):
        needy = Plan(1, 0, [("ann", (0, 2), 9), ("bob", (1, 3), 5)])
        # In the house a there is no room at night 2, so that ann must move.
        chain = self.chain_of([("needy", needy), ("a", Plan(1, 0, [], upkeep=[(2, 3)])), ("b", Plan(1, 0, []))])
        self.assertEqual((chain.reliefs("needy"), chain.best_relief("needy")), (((5, "b"), (9, "a")), ("b", (1,), 5)))

    def test_names(self):
        chain = self.chain_of([("ox", Plan(2, 0, []))])
        self.refuse(Taken, ("ox",), chain.add_house, "ox", Plan(3, 0, []))
        self.refuse(Taken, ("ox",), chain.add_house, plan=Plan(3, 0, []), name="ox")
        for function in (chain.plan_of, chain.reliefs, chain.best_relief):
            self.refuse(Unknown, ("cow",), function, "cow")
            self.refuse(Unknown, ("cow",), function, name="cow")
        self.assertEqual((chain.names, chain.plan_of("ox").rooms), (("ox",), 2))

    def test_copies(self):
        plan = Plan(2, 0, [("ann", (0, 1), 5)])
        chain = self.chain_of([("ox", plan)])
        plan.rooms = 7
        self.assertEqual(chain.plan_of("ox").rooms, 2)
