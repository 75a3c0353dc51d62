"""Point 20: bids, sure and possible requests, what a room is worth."""

from random import Random

from keptnights.bids import (bid, cheapest_span, pay_with, pay_without, possible_requests, room_losses, room_worths,
                             sure_requests, taken_for)
from keptnights.income import greatest_pay
from tests.support import Case, random_span, small_spans
from tests.test_income import all_taken


def pays(rooms, requests):
    """The pairs (requests, pay) of all requests that find room together."""
    return [(some, sum(requests[k][1] for k in some)) for some in all_taken(rooms, requests)]


def most(rooms, requests):
    """The greatest pay, None with less than no room somewhere."""
    return max(pay for _, pay in pays(rooms, requests)) if min(rooms, default=0) >= 0 else None


def changed(rooms, span, by):
    return [many + by if span[0] <= night < span[1] else many for night, many in enumerate(rooms)]


def fall(rooms, requests, span):
    less = most(changed(rooms, span, -1), requests)
    return None if less is None else most(rooms, requests) - less


class TestBids(Case):
    def random_cases(self, many, nights=6, requests=5):
        random = Random(20)
        for _ in range(many):
            size = random.randint(0, nights)
            rooms = [random.choice((0, 1, 1, 2, 2, 3)) for _ in range(size)]
            spans = [random_span(random, size) for _ in range(random.randint(0, requests) if size else 0)]
            kind = random.choice((1, 3, 10 ** 20))
            yield rooms, [(span, random.randint(0, kind)) for span in spans]

    def test_requests_that_are_sure_or_possible(self):
        kinds = {}
        for rooms, requests in self.random_cases(700):
            best = [set(some) for some, pay in pays(rooms, requests) if pay == most(rooms, requests)]
            sure = tuple(k for k in range(len(requests)) if all(k in some for some in best))
            possible = tuple(k for k in range(len(requests)) if any(k in some for some in best))
            self.assertEqual(sure_requests(rooms, requests), sure)
            self.assertEqual(possible_requests(rooms, requests), possible)
            kinds[(sure == possible, bool(sure))] = True
        self.assertEqual(len(kinds), 4)

    def test_with_and_without_a_request(self):
        for rooms, requests in self.random_cases(500):
            for k in range(len(requests)):
                having = [pay for some, pay in pays(rooms, requests) if k in some]
                lacking = [pay for some, pay in pays(rooms, requests) if k not in some]
                self.assertEqual(pay_with(rooms, requests, k), max(having, default=None))
                self.assertEqual(pay_without(rooms, requests, k), max(lacking))

    def test_bids_of_all_spans(self):
        for rooms, requests in self.random_cases(300):
            for span in small_spans(len(rooms)):
                self.assertEqual(bid(rooms, requests, span), fall(rooms, requests, span))

    def test_another_request_that_pays_more_or_less_than_the_bid(self):
        for rooms, requests in self.random_cases(120, 4, 4):
            for span in small_spans(len(rooms)):
                price = bid(rooms, requests, span)
                if price is None:
                    self.assertIs(taken_for(rooms, requests, span, 10 ** 30), False)
                    continue
                for pay in (price - 1, price, price + 1):
                    self.assertIs(taken_for(rooms, requests, span, pay), pay > price)
                    if pay >= 0:
                        more = list(requests) + [(span, pay)]
                        self.assertIs(len(requests) in sure_requests(rooms, more), pay > price)
                        self.assertIs(len(requests) in possible_requests(rooms, more), pay >= price)

    def test_what_a_room_is_worth(self):
        for rooms, requests in self.random_cases(500):
            one_more = [most(changed(rooms, (k, k + 1), 1), requests) for k in range(len(rooms))]
            self.assertEqual(room_worths(rooms, requests), tuple(pay - most(rooms, requests) for pay in one_more))
            losses = tuple(fall(rooms, requests, (k, k + 1)) for k in range(len(rooms)))
            self.assertEqual(room_losses(rooms, requests), losses)

    def test_cheapest_spans(self):
        for rooms, requests in self.random_cases(300):
            for length in range(1, len(rooms) + 2):
                bids = [(fall(rooms, requests, (k, k + length)), k) for k in range(len(rooms) - length + 1)]
                bids = [pair for pair in bids if pair[0] is not None]
                self.assertEqual(cheapest_span(rooms, requests, length), min(bids, default=None))

    def test_all_forms(self):
        for rooms, requests in self.random_cases(40):
            for function in (sure_requests, possible_requests, room_worths, room_losses):
                self.ask(function, rooms, requests)
            for span in small_spans(len(rooms))[:2]:
                self.ask(bid, rooms, requests, span)
                self.ask(taken_for, rooms, requests, span, 2)
            for k in range(len(requests)):
                self.ask(pay_with, rooms, requests, k)
                self.ask(pay_without, rooms, requests, k)
            self.ask(cheapest_span, rooms, requests, 2)

    def test_an_example(self):
        rooms, requests = (1, 1, 2), (((0, 2), 5), ((1, 3), 4), ((0, 1), 2), ((2, 3), 1))
        self.assertEqual(greatest_pay(rooms, requests), 7)
        self.assertEqual((sure_requests(rooms, requests), possible_requests(rooms, requests)), ((1, 2, 3), (1, 2, 3)))
        self.assertEqual([bid(rooms, requests, (night, night + 1)) for night in range(3)], [2, 4, 1])
        self.assertEqual((pay_with(rooms, requests, 0), pay_without(rooms, requests, 1)), (6, 6))
        self.assertEqual((room_worths(rooms, requests), room_losses(rooms, requests)), ((1, 3, 0), (2, 4, 1)))
        self.assertEqual((cheapest_span(rooms, requests, 1), cheapest_span(rooms, requests, 2)), ((1, 2), (4, 1)))

    def test_nothing_given(self):
        for function in (sure_requests, possible_requests, room_worths, room_losses):
            self.assertEqual(self.ask(function, [], []), ())
        self.assertIsNone(self.ask(cheapest_span, [], [], 1))
        self.assertEqual(self.ask(room_losses, [0, 2], []), (None, 0))
        self.assertEqual(self.ask(room_worths, [0, 2], []), (0, 0))
        self.assertEqual((bid([0, 2], [], (1, 2)), bid([0, 2], [], (0, 2))), (0, None))
        self.assertIs(taken_for([1], [], (0, 1), 0), False)
        self.assertIs(taken_for([1], [], (0, 1), 1), True)
        self.assertIsNone(cheapest_span([0, 1, 0], [], 2))
        self.assertEqual(cheapest_span([0, 1, 0, 1], [], 1), (0, 1))

    def test_requests_that_pay_nothing(self):
        rooms, requests = [1], [((0, 1), 0), ((0, 1), 0)]
        self.assertEqual((sure_requests(rooms, requests), possible_requests(rooms, requests)), ((), (0, 1)))
        self.assertEqual((pay_with([0], [((0, 1), 0)], 0), pay_without([0], [((0, 1), 0)], 0)), (None, 0))

    def test_many_requests(self):
        random = Random(200)
        for nights, many, longest in ((90, 500, 14), (365, 800, 10), (36525, 400, 900)):
            rooms = [random.randrange(1, 9) for _ in range(nights)]
            requests = [(random_span(random, nights, longest), random.randrange(10 ** 5)) for _ in range(many)]
            sure, possible = sure_requests(rooms, requests), possible_requests(rooms, requests)
            self.assertLessEqual(set(sure), set(possible))
            losses, worths = room_losses(rooms, requests), room_worths(rooms, requests)
            self.assertTrue(all(worth <= loss for worth, loss in zip(worths, losses)))
            price, first = cheapest_span(rooms, requests, 5)
            self.assertEqual(price, bid(rooms, requests, (first, first + 5)))
            best = greatest_pay(rooms, requests)
            for k in (0, many // 2, many - 1):
                self.assertEqual(pay_with(rooms, requests, k) == best, k in possible)
                self.assertEqual(pay_without(rooms, requests, k) < best, k in sure)
