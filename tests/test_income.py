"""Point 19: requests that find room and pay most."""

from itertools import product
from random import Random

from keptnights.income import (Income, best_requests, find_room, greatest_pay, greedy_requests, is_price_paper,
                               left_rooms, pay_for, price_bound, span_price)
from tests.support import ANYTHING, Case, random_span
from tests.trials import cover, loads, subsets

ROOMS = (1, 2, 1)
REQUESTS = (((0, 2), 5), ((1, 3), 4), ((0, 1), 2), ((1, 2), 2), ((0, 3), 6))


def all_taken(rooms, requests):
    """All requests that find room together."""
    spans = [span for span, _ in requests]
    return [some for some in subsets(len(requests))
            if all(cover(spans, some, night) <= rooms[night] for night in range(len(rooms)))]


def shows_most(rooms, requests, taken, prices):
    """Whether prices show that requests that find room pay most, by the words of the point."""
    if taken not in all_taken(rooms, requests) or min(prices, default=0) < 0:
        return False
    for night, price in enumerate(prices):
        if price > 0 and cover([span for span, _ in requests], taken, night) != rooms[night]:
            return False
    for k, ((first, leave), pay) in enumerate(requests):
        price = sum(prices[first:leave])
        if pay < price and k in taken or pay > price and k not in taken:
            return False
    return True


class TestIncome(Case):
    def random_cases(self, many, nights=5, requests=6):
        random = Random(19)
        for _ in range(many):
            size = random.randint(0, nights)
            rooms = [random.choice((0, 1, 1, 2, 3)) for _ in range(size)]
            spans = [random_span(random, size) for _ in range(random.randint(0, requests) if size else 0)]
            kind = random.choice((2, 9, 10 ** 20))
            yield rooms, [(span, random.randint(0, kind)) for span in spans]

    def test_against_all_requests(self):
        for rooms, requests in self.random_cases(1200):
            found = best_requests(rooms, requests)
            possible = [sum(requests[k][1] for k in some) for some in all_taken(rooms, requests)]
            self.assertEqual(found.pay, max(possible))
            self.assertEqual((pay_for(requests, found.taken), greatest_pay(rooms, requests)), (found.pay, found.pay))
            self.assertTrue(shows_most(rooms, requests, found.taken, found.prices))
            self.assertTrue(is_price_paper(rooms, requests, found.taken, found.prices))
            self.assertEqual(price_bound(rooms, requests, found.prices), found.pay)
            self.assertTrue(find_room(rooms, requests, found.taken))

    def test_all_forms(self):
        for rooms, requests in self.random_cases(60):
            self.ask(best_requests, rooms, requests)
            self.ask(greatest_pay, rooms, requests)
            self.ask(greedy_requests, rooms, requests)

    def test_the_fields(self):
        made = self.ask(Income, [0, 2], 7, [1, 0])
        self.assertEqual((made.taken, made.pay, made.prices), ((0, 2), 7, (1, 0)))
        self.assertFalse(made == Income([0, 2], 7, [1, 0]))

    def test_nothing_given(self):
        found = self.ask(best_requests, [], [])
        self.assertEqual((found.taken, found.pay, found.prices), ((), 0, ()))
        found = self.ask(best_requests, [0, 3], [])
        self.assertEqual((found.taken, found.pay, found.prices), ((), 0, (0, 0)))
        found = best_requests([0], [((0, 1), 9)])
        self.assertEqual((found.taken, found.pay), ((), 0))
        self.assertTrue(found.prices[0] >= 9)

    def test_many_requests(self):
        random = Random(190)
        for nights, many, longest in ((90, 800, 14), (365, 2000, 10), (36525, 2000, 900)):
            rooms = [random.randrange(1, 20) for _ in range(nights)]
            requests = [(random_span(random, nights, longest), random.randrange(10 ** 6)) for _ in range(many)]
            found = best_requests(rooms, requests)
            self.assertTrue(is_price_paper(rooms, requests, found.taken, found.prices))
            self.assertTrue(find_room(rooms, requests, greedy_requests(rooms, requests)))

    def test_find_room(self):
        right = all_taken(ROOMS, REQUESTS)
        for size in range(4):
            for some in product(range(-1, 6), repeat=size):
                self.assertIs(find_room(ROOMS, REQUESTS, some), some in right)
        self.assertIs(self.ask(find_room, ROOMS, REQUESTS, [0, 3]), True)
        self.assertIs(self.ask(find_room, ROOMS, REQUESTS, [0, 2]), False)
        for value in ANYTHING + ((True,), (2.0,), "2", (3, 2), (2, 2)):
            self.assertIs(find_room(ROOMS, REQUESTS, value), value in ([], (), [0], (0, 1)))

    def test_all_small_prices(self):
        rooms, requests = (1, 2), (((0, 2), 3), ((0, 1), 1), ((1, 2), 2), ((0, 1), 1))
        papers = 0
        for taken in subsets(4):
            for prices in product(range(-1, 5), repeat=2):
                right = shows_most(rooms, requests, taken, prices)
                self.assertIs(is_price_paper(rooms, requests, taken, prices), right)
                papers += right
        self.assertTrue(papers > 1)

    def test_papers_with_one_thing_changed(self):
        found = best_requests(ROOMS, REQUESTS)
        self.assertEqual((found.taken, found.pay), ((0, 1), 9))
        self.assertTrue(self.ask(is_price_paper, ROOMS, REQUESTS, found.taken, found.prices))
        for value in ANYTHING + (found.taken + (9,), found.taken[:-1], found.taken[::-1], found.taken * 2):
            self.assertIs(is_price_paper(ROOMS, REQUESTS, value, found.prices), value == (0, 1))
        for value in ANYTHING + (found.prices + (0,), found.prices[:-1]):
            self.assertIs(is_price_paper(ROOMS, REQUESTS, found.taken, value), False)
        for night in range(3):
            for value in (-1, None, True, 1.0, "1", 10 ** 9):
                prices = found.prices[:night] + (value,) + found.prices[night + 1:]
                self.assertIs(is_price_paper(ROOMS, REQUESTS, found.taken, prices), False)

    def test_no_requests_pay_more_than_the_bound(self):
        for prices in product((0, 1, 3, 7), repeat=3):
            bound = self.ask(price_bound, ROOMS, REQUESTS, prices)
            over = [max(0, pay - sum(prices[first:leave])) for (first, leave), pay in REQUESTS]
            self.assertEqual(bound, sum(price * many for price, many in zip(prices, ROOMS)) + sum(over))
            self.assertTrue(all(pay_for(REQUESTS, some) <= bound for some in all_taken(ROOMS, REQUESTS)))

    def test_prices_and_pays(self):
        self.assertEqual(self.ask(span_price, [1, 20, 300, 4000], (1, 3)), 320)
        self.assertEqual(self.ask(pay_for, REQUESTS, [0, 4]), 11)
        self.assertEqual(self.ask(pay_for, REQUESTS, []), 0)

    def test_left_rooms(self):
        for some in subsets(len(REQUESTS)):
            taken = loads([REQUESTS[k][0] for k in some], range(3))
            self.assertEqual(self.ask(left_rooms, ROOMS, REQUESTS, some), tuple(a - b for a, b in zip(ROOMS, taken)))
        self.assertEqual(self.ask(left_rooms, [], [], []), ())

    def test_greedy(self):
        for rooms, requests in self.random_cases(300):
            taken = []
            for k in sorted(range(len(requests)), key=lambda k: (-requests[k][1], k)):
                if tuple(sorted(taken + [k])) in all_taken(rooms, requests):
                    taken.append(k)
            self.assertEqual(greedy_requests(rooms, requests), tuple(sorted(taken)))
        self.assertEqual(self.ask(greedy_requests, ROOMS, REQUESTS), (3, 4))
        self.assertEqual(self.ask(greedy_requests, [1], [((0, 1), 3)] * 2), (0,))
        self.assertEqual(self.ask(greedy_requests, [2], [((0, 1), 0)] * 2), (0, 1))
