"""Point 27: the groups and requests that surely pay most."""

from random import Random

from keptnights.bestsure import Taking, best_taking, group_bid, taken_in_all
from keptnights.errors import BadItem, TooMany
from keptnights.groups import Group
from tests.support import Case, random_span
from tests.test_income import shows_most
from tests.trials import cover, random_group, subsets


def left_by(rooms, groups, some):
    return [many - sum(groups[k].worst(night) for k in some) for night, many in enumerate(rooms)]


def sure_pay_of(group, offers):
    pays = [sum(pay if k in some else fee for k, (pay, fee) in enumerate(offers))
            for some in subsets(len(group)) if group.least <= len(some) <= group.most]
    return min(pays)


def most_for(left, requests):
    """The greatest sure pay of requests, by a trial of all."""
    spans = [request[0] for request in requests]
    return max(sum(min(requests[k][1:]) for k in some) for some in subsets(len(requests))
               if all(cover(spans, some, night) <= many for night, many in enumerate(left)))


def all_sets(rooms, groups, offers, requests):
    """The triples (-pay, number of groups, groups) of all sets of groups that have room, the best one first."""
    found = []
    for some in subsets(len(groups)):
        left = left_by(rooms, groups, some)
        if min(left, default=0) >= 0:
            pay = most_for(left, requests) + sum(sure_pay_of(groups[k], offers[k]) for k in some)
            found.append((-pay, len(some), some))
    return sorted(found)


class TestBestTaking(Case):
    def random_cases(self, many, groups=3):
        random = Random(27)
        for _ in range(many):
            size = random.randint(1, 4)
            rooms = [random.randrange(5) for _ in range(size)]
            some = [random_group(random, f"g{k}", size) for k in range(random.randint(0, groups))]
            offers = [[(pay, random.randint(0, pay)) for pay in random.choices(range(7), k=len(group))] for group in some]
            requests = [(random_span(random, size), random.randrange(9), random.randrange(9))
                        for _ in range(random.randrange(5))]
            yield rooms, some, offers, requests

    def test_against_all_sets_of_groups(self):
        kinds = {}
        for rooms, groups, offers, requests in self.random_cases(500):
            found = best_taking(rooms, groups, offers, requests)
            ranked = all_sets(rooms, groups, offers, requests)
            self.assertEqual((-found.pay, len(found.groups), found.groups), ranked[0])
            left = left_by(rooms, groups, found.groups)
            sure = [(span, min(pay, fee)) for span, pay, fee in requests]
            self.assertTrue(shows_most(left, sure, found.requests, found.prices))
            kinds[(len(found.groups), bool(found.requests))] = True
        self.assertTrue(len(kinds) > 5)

    def test_bids_and_groups_taken_in_all(self):
        answers = {None: 0, True: 0, False: 0}
        random = Random(270)
        for rooms, groups, offers, requests in self.random_cases(200):
            most = -all_sets(rooms, groups, offers, requests)[0][0]
            other = random_group(random, "other", len(rooms))
            left = left_by(rooms, [other], (0,))
            price = None if min(left) < 0 else most + all_sets(left, groups, offers, requests)[0][0]
            self.assertEqual(group_bid(rooms, groups, offers, requests, other), price)
            answers[None] += price is None
            for k in range(len(groups)):
                less = -all_sets(rooms, groups[:k] + groups[k + 1:], offers[:k] + offers[k + 1:], requests)[0][0]
                self.assertIs(taken_in_all(rooms, groups, offers, requests, k), less < most)
                answers[less < most] += 1
        self.assertTrue(min(answers.values()) > 20)

    def test_all_forms(self):
        for rooms, groups, offers, requests in self.random_cases(40):
            self.ask(best_taking, rooms, groups, offers, requests)
            self.ask(group_bid, rooms, groups, offers, requests, Group("z", [(0, 1)], 1, 1))
            for k in range(len(groups)):
                self.ask(taken_in_all, rooms, groups, offers, requests, k)

    def test_the_fields(self):
        made = self.ask(Taking, [0], [1, 2], 5, [3])
        self.assertEqual((made.groups, made.requests, made.pay, made.prices), ((0,), (1, 2), 5, (3,)))
        self.assertFalse(made == Taking([0], [1, 2], 5, [3]))

    def test_nothing_given(self):
        found = self.ask(best_taking, [], [], [], [])
        self.assertEqual((found.groups, found.requests, found.pay, found.prices), ((), (), 0, ()))
        found = self.ask(best_taking, [0], [Group("a", [(0, 1)], 1, 1)], [[(5, 5)]], [((0, 1), 3, 3)])
        self.assertEqual((found.groups, found.requests, found.pay), ((), (), 0))
        self.assertIsNone(group_bid([0], [], [], [], Group("a", [(0, 1)], 0, 1)))
        self.assertEqual(group_bid([0], [], [], [], Group("a", [(0, 1)], 0, 0)), 0)

    def test_fewer_groups_and_the_first_ones(self):
        one = [Group(name, [(0, 1)], 1, 1) for name in ("a", "b", "c")]
        found = best_taking([1], one, [[(5, 0)], [(5, 0)], [(5, 5)]], [])
        self.assertEqual((found.groups, found.pay), ((0,), 5))
        found = best_taking([2], one, [[(5, 0)], [(9, 0)], [(5, 5)]], [])
        self.assertEqual((found.groups, found.pay), ((0, 1), 14))
        found = best_taking([2], one, [[(0, 0)], [(5, 0)], [(0, 0)]], [])
        self.assertEqual((found.groups, found.pay), ((1,), 5))
        found = best_taking([1], one, [[(5, 0)], [(5, 0)], [(5, 0)]], [((0, 1), 5, 9)])
        self.assertEqual((found.groups, found.requests, found.pay), ((), (0,), 5))

    def test_guests_who_may_stay_on_need_rooms_and_pay_nothing(self):
        group = Group("a", [(0, 1)], 1, 1, 1, 1)
        self.assertEqual(best_taking([1, 0], [group], [[(5, 5)]], []).groups, ())
        self.assertEqual(best_taking([1, 1], [group], [[(5, 5)]], []).groups, (0,))
        self.assertEqual(best_taking([1], [group], [[(5, 5)]], []).groups, (0,))
        found = best_taking([1, 1], [group], [[(5, 5)]], [((1, 2), 6, 6)])
        self.assertEqual((found.groups, found.requests, found.pay), ((), (0,), 6))

    def test_the_most_groups(self):
        random = Random(271)
        groups = [Group(f"g{k}", [random_span(random, 85, 9) for _ in range(30)], 9, 25, 5, 5) for k in range(6)]
        offers = [[(pay, pay // 2) for pay in random.choices(range(99999), k=30)] for _ in groups]
        requests = [(random_span(random, 90, 14), random.randrange(99999), random.randrange(99999)) for _ in range(150)]
        rooms = [40] * 90
        found = best_taking(rooms, groups, offers, requests)
        left = left_by(rooms, groups, found.groups)
        self.assertTrue(min(left) >= 0)
        self.assertTrue(any(taken_in_all(rooms, groups, offers, requests, k) for k in found.groups))

    def test_too_many_groups(self):
        groups = [Group(f"g{k}", [(0, 1)], 0, 1) for k in range(7)]
        offers = [[(1, 1)]] * 7
        other = Group("z", [(0, 1)], 1, 1)
        for wrong in (offers, [None] * 7):
            self.refuse(TooMany, (6,), best_taking, [9], groups, wrong, [])
            self.refuse(TooMany, (6,), group_bid, [0], groups, wrong, [], other)
            self.refuse(TooMany, (6,), taken_in_all, [9], groups, wrong, [], 6)
        self.assertEqual(best_taking([9], groups[:6], offers[:6], []).pay, 6)

    def test_wrong_offers(self):
        groups = [Group("a", [(0, 1)], 0, 1), Group("b", [(0, 1)] * 2, 0, 1)]
        for wrong, index in ((((1, 2), (1, 1)), 0), (((1, 1), None), 1), (((1, 1),), None), (None, None)):
            self.refuse(BadItem, (index,), best_taking, [2], groups, [[(1, 1)], wrong], [])
            self.refuse(BadItem, (index,), group_bid, [0], groups, [[(1, 1)], wrong], [], groups[0])
            self.refuse(BadItem, (index,), taken_in_all, [2], groups, [[(1, 1)], wrong], [], 1)
