"""Point 18: stays that move."""

from random import Random

from keptnights.moving import (Moves, cost_of, is_least_moves, is_move_cut, least_moves, movable, moved_covers,
                               moved_too_many, needed_more)
from tests.support import ANYTHING, Case, random_span
from tests.trials import cover, cuts, shows_least, subsets, within

FIELDS = ("done", "moved", "cost", "ups", "downs", "plus", "minus")
NEEDS, FREE = (1, 1, 0), (1, 2, 2)
STAYS = (((0, 2), 5), ((0, 1), None), ((0, 1), 1), ((1, 3), 3), ((1, 2), 0))


def all_moves(needs, free, stays):
    """All choices of stays that can move, within the bounds."""
    spans = [span for span, _ in stays]
    return [some for some in subsets(len(stays))
            if all(stays[k][1] is not None for k in some) and within(needs, free, spans, some)]


def is_move_paper(needs, free, stays, moved, ups, downs):
    """Whether prices are a paper for moved stays, by the words of points 17 and 18."""
    able = [k for k, stay in enumerate(stays) if stay[1] is not None]
    spans, costs = [stays[k][0] for k in able], [stays[k][1] for k in able]
    return shows_least(needs, free, spans, costs, [able.index(k) for k in moved], ups, downs)


class TestMoving(Case):
    def random_cases(self, many):
        random = Random(18)
        for _ in range(many):
            size = random.randint(0, 5)
            spans = [random_span(random, size) for _ in range(random.randint(0, 6) if size else 0)]
            stays = [(span, random.choice((None, 0, 1, 3, 3, 10 ** 20))) for span in spans]
            needs = [max(0, random.randint(-2, 2)) for _ in range(size)]
            free = [random.randint(-1, 3) if random.random() < 0.2 else need + random.randrange(3) for need in needs]
            yield needs, free, stays

    def test_against_all_moves(self):
        answers = {True: 0, False: 0}
        for needs, free, stays in self.random_cases(1500):
            found = least_moves(needs, free, stays)
            possible = [sum(stays[k][1] for k in some) for some in all_moves(needs, free, stays)]
            answers[found.done] += 1
            self.assertIs(found.done, bool(possible))
            if found.done:
                self.assertEqual((found.cost, found.plus, found.minus), (min(possible), None, None))
                self.assertIn(found.moved, all_moves(needs, free, stays))
                self.assertEqual(cost_of(stays, found.moved), found.cost)
                self.assertTrue(is_move_paper(needs, free, stays, found.moved, found.ups, found.downs))
                self.assertTrue(is_least_moves(needs, free, stays, found.moved, found.ups, found.downs))
                self.assertEqual((needed_more(needs, stays, found.moved), moved_too_many(free, stays, found.moved)),
                                 (None, None))
            else:
                self.assertEqual((found.moved, found.cost, found.ups, found.downs), (None,) * 4)
                spans = [span for span, cost in stays if cost is not None]
                self.assertTrue(cuts(needs, free, spans, found.plus, found.minus))
                self.assertTrue(is_move_cut(needs, free, stays, found.plus, found.minus))
        self.assertTrue(min(answers.values()) > 300)

    def test_all_forms(self):
        for needs, free, stays in self.random_cases(60):
            self.ask(least_moves, needs, free, stays)

    def test_the_fields(self):
        made = self.ask(Moves, True, [1, 2], 7, [0], [1], None, None)
        self.assertEqual([getattr(made, name) for name in FIELDS], [True, (1, 2), 7, (0,), (1,), None, None])
        made = Moves(False, None, None, None, None, plus=[1], minus=[])
        self.assertEqual([getattr(made, name) for name in FIELDS], [False, None, None, None, None, (1,), ()])
        self.assertFalse(made == Moves(False, None, None, None, None, [1], []))

    def test_nothing_given(self):
        found = self.ask(least_moves, [], [], [])
        self.assertEqual([getattr(found, name) for name in FIELDS], [True, (), 0, (), (), None, None])
        found = self.ask(least_moves, [0], [0], [((0, 1), None)])
        self.assertEqual([getattr(found, name) for name in FIELDS[:3]], [True, (), 0])

    def test_stays_that_cannot_move(self):
        self.assertEqual(self.ask(movable, STAYS), (0, 2, 3, 4))
        self.assertEqual((self.ask(movable, []), self.ask(movable, [((0, 1), None)])), ((), ()))
        found = least_moves([1], [9], [((0, 1), None)] * 3)
        self.assertFalse(found.done)
        self.assertTrue(is_move_cut([1], [9], [((0, 1), None)] * 3, found.plus, found.minus))
        found = least_moves([1], [9], [((0, 1), None), ((0, 1), 0), ((0, 1), None)])
        self.assertEqual((found.moved, found.cost), ((1,), 0))

    def test_covers_and_costs(self):
        self.assertEqual(self.ask(moved_covers, 3, STAYS, [0, 3]), (1, 2, 1))
        self.assertEqual(self.ask(moved_covers, 3, STAYS, [3, 1, 0]), (2, 2, 1))
        self.assertEqual(self.ask(moved_covers, 0, [], []), ())
        self.assertEqual(self.ask(cost_of, STAYS, [0, 3, 4]), 8)
        self.assertEqual(self.ask(cost_of, STAYS, []), 0)

    def test_the_first_night_that_is_not_right(self):
        spans = [span for span, _ in STAYS]
        for some in subsets(len(STAYS)):
            covers = [cover(spans, some, night) for night in range(3)]
            below = [night for night in range(3) if covers[night] < NEEDS[night]]
            above = [night for night in range(3) if covers[night] > FREE[night]]
            self.assertEqual(self.ask(needed_more, NEEDS, STAYS, some), below[0] if below else None)
            self.assertEqual(self.ask(moved_too_many, FREE, STAYS, some), above[0] if above else None)


class TestIsLeastMoves(Case):
    def test_all_moved_stays(self):
        found = least_moves(NEEDS, FREE, STAYS)
        self.assertEqual((found.moved, found.cost), ((2, 4), 1))
        prices = [(ups, downs) for ups in ((0, 0, 0), found.ups, (1, 0, 0), (1, 3, 0)) for downs in ((0, 0, 0), (0, 1, 0))]
        rights = 0
        for some in subsets(len(STAYS)):
            for ups, downs in prices:
                right = some in all_moves(NEEDS, FREE, STAYS) and is_move_paper(NEEDS, FREE, STAYS, some, ups, downs)
                self.assertIs(is_least_moves(NEEDS, FREE, STAYS, some, ups, downs), right)
                self.assertIs(is_least_moves(NEEDS, FREE, STAYS, some[::-1], ups, downs), right)
                rights += right
        self.assertTrue(rights)

    def test_one_thing_changed(self):
        ups, downs = (1, 0, 0), (0, 0, 0)
        given = (NEEDS, FREE, STAYS)
        self.assertTrue(self.ask(is_least_moves, *given, [4, 2], ups, downs))
        for moved in ((2, 4, 4), (2, 4, 1), (2, 4, 5), (2, 4, -1), (2, 3), (2, True), (2, 4.0), ("2", 4), (2, None), 2, None):
            self.assertIs(is_least_moves(*given, moved, ups, downs), False)
        for wrong in ((0, 0, 0), (6, 0, 0), (-1, 0, 0), (1, 0), (1, 0, 0, 0), (1, 0, None), (1, 0, False), None):
            self.assertIs(is_least_moves(*given, (2, 4), wrong, downs), False)
        for wrong in ((0, 1, 0), (0, 0, -1), (0, 0), None):
            self.assertIs(is_least_moves(*given, (2, 4), ups, wrong), False)

    def test_any_value(self):
        for value in ANYTHING:
            self.assertIs(is_least_moves(NEEDS, FREE, STAYS, value, (1, 0, 0), (0, 0, 0)), False)
            self.assertIs(is_least_moves(NEEDS, FREE, STAYS, (2, 4), value, (0, 0, 0)), False)
            self.assertIs(is_move_cut(NEEDS, FREE, STAYS, value, value), False)

    def test_all_small_cuts(self):
        needs, free, stays = (1, 2, 0), (1, 2, 0), (((0, 3), 1), ((1, 2), 4), ((1, 2), None), ((0, 1), None))
        spans = [(0, 3), (1, 2)]
        found = 0
        for plus in subsets(3):
            for minus in subsets(3):
                right = cuts(needs, free, spans, plus, minus)
                found += right
                self.assertIs(self.ask(is_move_cut, needs, free, stays, plus, minus), right)
        self.assertTrue(found)
