"""Point 26: what a group surely pays."""

from itertools import product
from random import Random

from keptnights.errors import BadItem
from keptnights.groups import Group
from keptnights.sureincome import (all_sure, fees_of, gains_of, greatest_group_pay, least_for, pay_if, pay_spread,
                                   poorest_comers, richest_comers, sure_pay, sure_request)
from tests.support import NO_NUMBERS, NO_SEQUENCES, Case
from tests.trials import subsets

WITH_A_GROUP = (poorest_comers, richest_comers, sure_pay, greatest_group_pay, pay_spread)
OFFERS = ((100, 20), (50, 50), (70, 0), (90, 10))


def group_of(many, least, most):
    return Group("g", [(0, 1)] * many, least, most, most, 3)


def paid(offers, comers):
    return sum(pay if k in comers else fee for k, (pay, fee) in enumerate(offers))


class TestSureIncome(Case):
    def random_cases(self, many):
        random = Random(26)
        for _ in range(many):
            size = random.randrange(6)
            most = random.randint(0, size)
            highest = random.choice((2, 9, 99999))
            pays = [random.randint(0, highest) for _ in range(size)]
            yield group_of(size, random.randint(0, most), most), [(pay, random.randint(0, pay)) for pay in pays]

    def test_against_all_comers(self):
        for group, offers in self.random_cases(400):
            comers = [some for some in subsets(len(group)) if group.least <= len(some) <= group.most]
            pays = [paid(offers, some) for some in comers]
            self.assertEqual(self.ask(sure_pay, group, offers), min(pays))
            self.assertEqual(self.ask(greatest_group_pay, group, offers), max(pays))
            self.assertEqual(self.ask(pay_spread, group, offers), max(pays) - min(pays))
            poor, rich = self.ask(poorest_comers, group, offers), self.ask(richest_comers, group, offers)
            self.assertEqual((len(poor), len(rich)), (group.least, group.most))
            self.assertEqual((paid(offers, poor), paid(offers, rich)), (min(pays), max(pays)))
            gains = sorted((pay - fee, k) for k, (pay, fee) in enumerate(offers))
            self.assertEqual(poor, tuple(sorted(k for _, k in gains[:group.least])))
            gains = sorted((fee - pay, k) for k, (pay, fee) in enumerate(offers))
            self.assertEqual(rich, tuple(sorted(k for _, k in gains[:group.most])))

    def test_equal_gains_by_indexes(self):
        offers = [(5, 3), (2, 0), (9, 7), (4, 2)]
        for least, most in product(range(5), repeat=2):
            if least <= most:
                self.assertEqual(poorest_comers(group_of(4, least, most), offers), tuple(range(least)))
                self.assertEqual(richest_comers(group_of(4, least, most), offers), tuple(range(most)))
        offers = [(9, 0), (5, 4), (8, 7), (9, 0), (5, 4)]
        self.assertEqual(poorest_comers(group_of(5, 2, 3), offers), (1, 2))
        self.assertEqual(richest_comers(group_of(5, 0, 3), offers), (0, 1, 3))

    def test_what_is_paid(self):
        for some in subsets(4):
            self.assertEqual(self.ask(pay_if, OFFERS, some), paid(OFFERS, some))
            self.assertEqual(pay_if(OFFERS, some[::-1]), paid(OFFERS, some))
        self.assertEqual(self.ask(gains_of, OFFERS), (80, 0, 70, 80))
        self.assertEqual(self.ask(fees_of, OFFERS), 80)
        self.assertEqual((gains_of([]), fees_of([]), pay_if([], [])), ((), 0, 0))
        self.assertEqual([self.ask(sure_request, *pair) for pair in ((5, 3), (3, 5), (4, 4), (0, 9))], [3, 3, 4, 0])

    def test_the_least_number_of_comers(self):
        seen = {}
        for group, offers in self.random_cases(300):
            for wanted in {0, fees_of(offers), paid(offers, range(9)), paid(offers, range(9)) // 2 + 1, 10 ** 7}:
                enough = [many for many in range(group.most + 1)
                          if min(paid(offers, some) for some in subsets(len(group)) if len(some) == many) >= wanted]
                self.assertEqual(self.ask(least_for, group, offers, wanted), enough[0] if enough else None)
                seen[enough[0] if enough else None] = True
        self.assertTrue(len(seen) > 4 and None in seen)
        group = group_of(4, 3, 3)
        self.assertEqual([least_for(group, OFFERS, wanted) for wanted in (-5, 80, 81, 150, 151, 230, 231)],
                         [0, 0, 2, 2, 3, 3, None])

    def test_several_groups(self):
        groups = (group_of(4, 1, 4), group_of(0, 0, 0), group_of(1, 1, 1))
        self.assertEqual(self.ask(all_sure, groups, (OFFERS, (), ((7, 2),))), 80 + 0 + 7)
        self.assertEqual(self.ask(all_sure, [], []), 0)

    def test_the_largest_group(self):
        offers = [(99999, k) for k in range(30)]
        self.assertEqual(sure_pay(group_of(30, 29, 30), offers), 29 * 99999)
        self.assertEqual(least_for(group_of(30, 0, 30), offers, 30 * 99999), 30)

    def test_wrong_offers(self):
        group = group_of(3, 1, 2)
        right = [(5, 5), (0, 0)]
        wrong = [(number, 0) for number in NO_NUMBERS + (-1, 100000)] + [(99999, number) for number in NO_NUMBERS + (-1,)]
        wrong += [(5, 6), (5,), (5, 1, 1), None, "ab", 5, {5: 1}, (), [None, None]]
        for function in WITH_A_GROUP + (self.least_for_one,):
            for value in NO_SEQUENCES:
                self.refuse(BadItem, (None,), function, group, value)
            for value in wrong:
                self.refuse(BadItem, (2,), function, group, right + [value])
                self.refuse(BadItem, (2,), function, group, right + [value, None, None])
            for value in (right, right * 2, [], (), right[:1]):
                self.refuse(BadItem, (None,), function, group, value)
            self.refuse(BadItem, (0,), function, group, [(1, 2)])
        self.refuse(BadItem, (None,), all_sure, [group], [right])
        self.refuse(BadItem, (1,), all_sure, [group_of(0, 0, 0), group], [[], [(1, 1), (1, 2), 0]])

    def least_for_one(self, group, offers):
        return least_for(group, offers, 1)
