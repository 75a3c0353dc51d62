"""Point 17: choices of whole stays, papers and cuts."""

from itertools import combinations, product
from random import Random

from keptnights.networks import covers_of
from keptnights.papers import Choice, flags_of, is_choice, is_cut, is_paper, least_choice, paper_value, price_of
from tests.support import ANYTHING, Case, random_span
from tests.trials import all_choices, cuts, shows_least, within

FIELDS = ("chosen", "cost", "ups", "downs", "plus", "minus")


class TestLeastChoice(Case):
    def random_cases(self, many, nights=5, spans=6):
        random = Random(17)
        for _ in range(many):
            size = random.randint(0, nights)
            stays = [random_span(random, size) for _ in range(random.randint(0, spans) if size else 0)]
            kind = random.choice((9, 1, 10 ** 40))
            costs = [random.randint(-kind, kind) for _ in stays]
            lows = [max(0, random.randint(-2, 2)) for _ in range(size)]
            highs = [random.randint(-1, 4) if random.random() < 0.1 else low + random.randint(0, 2) for low in lows]
            yield lows, highs, stays, costs

    def test_against_all_choices(self):
        answers = {True: 0, False: 0}
        for lows, highs, spans, costs in self.random_cases(1500):
            found = least_choice(lows, highs, spans, costs)
            possible = [sum(costs[k] for k in some) for some in all_choices(lows, highs, spans)]
            answers[bool(possible)] += 1
            if possible:
                self.assertEqual((found.cost, found.plus, found.minus), (min(possible), None, None))
                self.assertEqual(found.cost, sum(costs[k] for k in found.chosen))
                self.assertTrue(within(lows, highs, spans, found.chosen))
                self.assertTrue(shows_least(lows, highs, spans, costs, found.chosen, found.ups, found.downs))
                self.assertTrue(is_paper(lows, highs, spans, costs, found.chosen, found.ups, found.downs))
                self.assertEqual(paper_value(lows, highs, spans, costs, found.ups, found.downs), found.cost)
            else:
                self.assertEqual((found.chosen, found.cost, found.ups, found.downs), (None,) * 4)
                self.assertTrue(cuts(lows, highs, spans, found.plus, found.minus))
                self.assertTrue(is_cut(lows, highs, spans, found.plus, found.minus))
        self.assertTrue(min(answers.values()) > 300)

    def test_all_forms(self):
        for lows, highs, spans, costs in self.random_cases(60):
            self.ask(least_choice, lows, highs, spans, costs)

    def test_nothing_given(self):
        found = self.ask(least_choice, [], [], [], [])
        self.assertEqual([getattr(found, name) for name in FIELDS], [(), 0, (), (), None, None])
        found = least_choice([0, 0], [0, 5], [], [])
        self.assertEqual([getattr(found, name) for name in FIELDS], [(), 0, (0, 0), (0, 0), None, None])

    def test_bounds_that_nothing_keeps(self):
        for lows, highs in (([1, 0], [1, 1]), ([0, 0], [0, -1]), ([3, 0], [2, 9]), ([10 ** 30, 0], [10 ** 30, 0])):
            found = least_choice(lows, highs, [], [])
            self.assertIsNone(found.cost)
            self.assertTrue(is_cut(lows, highs, [], found.plus, found.minus))

    def test_a_choice_object(self):
        made = self.ask(Choice, [0, 2], 5, [1, 0], [0, 1], [1], [])
        self.assertEqual([getattr(made, name) for name in FIELDS], [(0, 2), 5, (1, 0), (0, 1), (1,), ()])
        made = Choice(None, None, None, None, plus=[1], minus=(2,))
        self.assertEqual([getattr(made, name) for name in FIELDS], [None, None, None, None, (1,), (2,)])
        self.assertFalse(made == Choice(None, None, None, None, [1], [2]))

    def test_many_spans(self):
        random = Random(170)
        for nights, many, longest in ((90, 400, 90), (400, 1500, 14), (36525, 2000, 400)):
            spans = [random_span(random, nights, longest) for _ in range(many)]
            costs = [random.randint(-10 ** 6, 10 ** 6) for _ in spans]
            covers = covers_of(nights, spans, [random.randrange(2) for _ in spans])
            lows = [max(0, some - random.randrange(4)) for some in covers]
            highs = [some + random.randrange(4) for some in covers]
            found = least_choice(lows, highs, spans, costs)
            self.assertTrue(is_paper(lows, highs, spans, costs, found.chosen, found.ups, found.downs))
            lows[nights // 2] = highs[nights // 2] = many
            found = least_choice(lows, highs, spans, costs)
            self.assertTrue(is_cut(lows, highs, spans, found.plus, found.minus))

    def test_tight_rooms_for_many_spans(self):
        random = Random(171)
        spans = [random_span(random, 365, 10) for _ in range(1500)]
        costs = [-random.randint(0, 99999) for _ in spans]
        lows, highs = [0] * 365, [random.randrange(12) for _ in range(365)]
        found = least_choice(lows, highs, spans, costs)
        self.assertTrue(is_paper(lows, highs, spans, costs, found.chosen, found.ups, found.downs))


class TestChecks(Case):
    lows, highs = (1, 0, 1), (1, 2, 1)
    spans, costs = ((0, 2), (1, 3), (0, 1), (2, 3), (0, 3)), (4, 3, 1, 2, 9)

    def test_choices(self):
        right = list(all_choices(self.lows, self.highs, self.spans))
        for size in range(4):
            for some in product(range(-1, 6), repeat=size):
                self.assertIs(is_choice(self.lows, self.highs, self.spans, some), some in right)
        self.assertTrue(self.ask(is_choice, self.lows, self.highs, self.spans, [2, 3]))

    def test_any_value_as_a_choice(self):
        for value in ANYTHING + ((True, 3), (2, 3.0), (3, 2), (2, 2), "23", (2, None), {2: 0, 3: 0}):
            self.assertIs(is_choice(self.lows, self.highs, self.spans, value), value == (0, 1))
            self.assertIs(is_choice([0], [9], [(0, 1)], value), value in ([], (), [0]))

    def test_all_small_papers(self):
        lows, highs, spans, costs = (1, 0), (1, 1), ((0, 2), (0, 1), (1, 2)), (2, 1, -1)
        least = min(sum(costs[k] for k in some) for some in all_choices(lows, highs, spans))
        for size in range(4):
            for chosen in combinations(range(3), size):
                papers = 0
                for prices in product(range(4), repeat=4):
                    ups, downs = prices[:2], prices[2:]
                    right = within(lows, highs, spans, chosen) and shows_least(
                        lows, highs, spans, costs, chosen, ups, downs)
                    self.assertIs(is_paper(lows, highs, spans, costs, chosen, ups, downs), right)
                    papers += right
                best = within(lows, highs, spans, chosen) and sum(costs[k] for k in chosen) == least
                self.assertEqual(papers > 0, best)

    def test_papers_with_one_thing_changed(self):
        found = least_choice(self.lows, self.highs, self.spans, self.costs)
        given = [self.lows, self.highs, self.spans, self.costs]
        self.assertEqual((found.chosen, found.cost), ((2, 3), 3))
        self.assertTrue(self.ask(is_paper, *given, found.chosen, found.ups, found.downs))
        for value in ANYTHING:
            self.assertIs(is_paper(*given, value, found.ups, found.downs), False)
            self.assertIs(is_paper(*given, found.chosen, value, found.downs), False)
            self.assertIs(is_paper(*given, found.chosen, found.ups, value), False)
        for night in range(3):
            for value in (-1, None, True, "0", 100, 1.0):
                for row in (found.ups, found.downs):
                    changed = list(row)
                    changed[night] = value
                    ups, downs = (changed, found.downs) if row is found.ups else (found.ups, changed)
                    if value != 100:
                        self.assertIs(is_paper(*given, found.chosen, ups, downs), False)
        self.assertIs(is_paper(*given, (0, 3), found.ups, found.downs), False)
        self.assertIs(is_paper(*given, found.chosen, found.ups + (0,), found.downs), False)
        self.assertIs(is_paper(*given, found.chosen, found.ups, found.downs[:2]), False)

    def test_all_small_cuts(self):
        lows, highs, spans = (2, 0, 1), (2, 0, 1), ((0, 2), (1, 3), (0, 1))
        found = 0
        sides = [side for size in range(4) for side in combinations(range(3), size)]
        for plus in sides:
            for minus in sides:
                right = cuts(lows, highs, spans, plus, minus)
                found += right
                self.assertIs(self.ask(is_cut, lows, highs, spans, plus, minus), right)
                self.assertIs(is_cut(lows, highs, spans, plus[::-1], minus[::-1]), right)
        self.assertTrue(found)
        self.assertTrue(is_cut(lows, highs, spans, (0,), (1,)))
        for wrong in ((0, 0), (0, 3), (0, -1), (0, None), (False,), (0.0,), "0", 0, None):
            self.assertIs(is_cut(lows, highs, spans, wrong, (1,)), False)
        for wrong in ((1, 1), (1, 3), (1, -1), (1, None), (True,), (1.0,), "1", 1, None):
            self.assertIs(is_cut(lows, highs, spans, (0,), wrong), False)

    def test_any_value_as_a_cut(self):
        for value in ANYTHING:
            self.assertIs(is_cut([0, 0], [9, 9], [(0, 1)], value, value), False)
            self.assertIs(is_cut([5, 0], [9, 9], [(0, 1)], value, []), value in ([0], (0, 1)))
            self.assertIs(is_cut([5, 0], [9, 9], [(0, 1)], [0], value), value in ([], ()))

    def test_no_choice_costs_less_than_a_paper_tells(self):
        random = Random(172)
        costs = (4, -3, 1, -2, 9)
        for _ in range(200):
            ups, downs = [[random.randrange(6) for _ in range(3)] for _ in range(2)]
            value = self.ask(paper_value, self.lows, self.highs, self.spans, costs, ups, downs)
            rests = [cost - price_of(span, ups, downs) for span, cost in zip(self.spans, costs)]
            told = sum(u * low for u, low in zip(ups, self.lows)) - sum(d * high for d, high in zip(downs, self.highs))
            self.assertEqual(value, told + sum(min(0, rest) for rest in rests))
            for some in all_choices(self.lows, self.highs, self.spans):
                self.assertLessEqual(value, sum(costs[k] for k in some))

    def test_prices_of_a_span(self):
        self.assertEqual(self.ask(price_of, (1, 3), [9, 4, 5, 9], [9, 0, 1, 9]), 8)
        self.assertEqual(self.ask(price_of, (0, 1), [0], [7]), -7)

    def test_covers(self):
        spans = [(0, 2), (1, 3), (2, 6)]
        self.assertEqual(self.ask(covers_of, 4, spans, [1, 1, 1]), (1, 2, 2, 1))
        self.assertEqual(self.ask(covers_of, 4, spans, [0, 1, 0]), (0, 1, 1, 0))
        self.assertEqual(self.ask(covers_of, 0, [], []), ())
        self.assertEqual(self.ask(covers_of, 2, [], []), (0, 0))

    def test_flags(self):
        self.assertEqual(self.ask(flags_of, 4, [0, 3]), (1, 0, 0, 1))
        self.assertEqual(self.ask(flags_of, 0, []), ())
        self.assertEqual(self.ask(flags_of, 3, ()), (0, 0, 0))
