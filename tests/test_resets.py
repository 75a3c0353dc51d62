"""Point 31: channels whose counts are replaced by each table."""

from itertools import product
from random import Random

from keptnights.errors import BadItem, Refused, TooMany
from keptnights.resets import Reset, drift, resets_open, same_wish
from tests.support import NO_NUMBERS, NO_SEQUENCES, Case, random_span, small_spans


def most_sold(left, sold, coming):
    """By nights, the most that can be sold in the end, by a trial of all steps."""
    seen, waiting = {}, [(tuple(left), tuple(sold), 0)]
    while waiting:
        state = waiting.pop()
        if state not in seen:
            seen[state] = True
            left, sold, come = state
            if come < len(coming):
                waiting.append((tuple(coming[come]), sold, come + 1))
            for first, leave in small_spans(len(left)):
                if all(left[night] > 0 for night in range(first, leave)):
                    less = tuple(many - (first <= night < leave) for night, many in enumerate(left))
                    more = tuple(many + (first <= night < leave) for night, many in enumerate(sold))
                    waiting.append((less, more, come))
    return tuple(max(sold[night] for _, sold, _ in seen) for night in range(len(left)))


def state_of(reset):
    return (list(reset.left), list(reset.sold), [tuple(table) for table in reset.coming])


class TestResets(Case):
    def test_random_steps(self):
        random = Random(31)
        refused = {}
        for _ in range(150):
            nights = random.randint(1, 3)
            reset = Reset([random.randrange(3) for _ in range(nights)])
            left, sold, coming = list(reset.left), [0] * nights, []
            for _ in range(12):
                word = random.choice(("tell", "arrive", "sell", "sell"))
                if word == "tell" and len(coming) < 2:
                    coming.append(tuple(random.randrange(3) for _ in range(nights)))
                    reset.tell(random.choice((coming[-1], list(coming[-1]))))
                elif word == "arrive" and not coming:
                    self.refuse(Refused, ("nothing", None), reset.arrive)
                    refused[word] = True
                elif word == "arrive":
                    reset.arrive()
                    left = list(coming.pop(0))
                elif word == "sell":
                    span = random_span(random, nights)
                    empty = [night for night in range(*span) if left[night] == 0]
                    if empty:
                        self.refuse(Refused, ("limit", empty[0]), reset.sell, span)
                        refused[word] = True
                    else:
                        reset.sell(random.choice((span, list(span))))
                        for night in range(*span):
                            left[night] -= 1
                            sold[night] += 1
                self.assertEqual(state_of(reset), (left, sold, coming))
            self.assertEqual(reset.reachable(), most_sold(left, sold, coming))
            self.assertEqual(state_of(reset), (left, sold, coming))
        self.assertEqual(sorted(refused), ["arrive", "sell"])

    def test_fields_are_lists(self):
        for table in ([1, 2], (1, 2)):
            reset = Reset(table=table)
            reset.tell(table=[3, 4])
            reset.tell((0, 400))
            self.assertEqual((reset.left, reset.sold, reset.coming), ([1, 2], [0, 0], [(3, 4), (0, 400)]))
            reset.arrive()
            reset.sell(span=[0, 2])
            self.assertEqual((reset.left, reset.sold, reset.coming), ([2, 3], [1, 1], [(0, 400)]))
            self.assertEqual(reset.reachable(), (3, 404))

    def test_copies(self):
        first, second = [1, 1], [2, 2]
        reset = Reset(first)
        reset.tell(second)
        reset.sell((0, 1))
        self.assertEqual((first, second), ([1, 1], [2, 2]))
        first[0] = second[0] = 9
        reset.arrive()
        reset.sell((0, 1))
        self.assertEqual((reset.left, reset.sold, second), ([1, 2], [2, 0], [9, 2]))

    def test_not_equal(self):
        self.assertFalse(Reset([1]) == Reset([1]))

    def test_open_nights(self):
        one, two = Reset([2, 1, 0]), Reset([0, 1, 0])
        two.tell([0, 1, 1])
        for rooms, night in (((2, 3, 1), None), ((1, 3, 1), 0), ((2, 2, 0), 1), ((2, 3, 0), 2), ((9, 9, 9), None)):
            self.assertEqual(self.ask(resets_open, rooms, (one, two)), night)
        two.arrive()
        self.assertEqual((resets_open((2, 2, 1), [one, two]), resets_open((2, 1, 1), [one, two])), (None, 1))
        self.assertEqual((self.ask(resets_open, [0, 0], []), self.ask(resets_open, [], [])), (None, None))

    def test_the_same_wish(self):
        self.assertEqual(self.ask(same_wish, [5, 3, 0, 2], [2, 4, 0, 2]), (3, 0, 0, 0))
        self.assertEqual(self.ask(same_wish, [], []), ())

    def test_drift(self):
        for limit, sold, unheard in product(range(5), repeat=3):
            total = sold + unheard + max(0, limit - sold)
            far = total - max(limit, sold + unheard)
            self.assertEqual(drift([limit], [sold], [unheard]), (far,))
            self.assertEqual(far, min(unheard, max(0, limit - sold)))
        self.assertEqual(self.ask(drift, (5, 3, 4), (2, 4, 1), (1, 2, 9)), (1, 0, 3))
        self.assertEqual(self.ask(drift, [], [], []), ())

    def test_wrong_tables(self):
        reset = Reset([1, 1, 1])
        reset.tell([2, 2, 2])
        before = state_of(reset)
        for function in (Reset, reset.tell):
            for value in NO_SEQUENCES:
                self.refuse(BadItem, (None,), function, value)
            for value in NO_NUMBERS + (-1, 401):
                self.refuse(BadItem, (1,), function, [0, value, None])
                self.refuse(BadItem, (0,), function, [value])
                self.refuse(BadItem, (30,), function, [400] * 30 + [value])
            self.refuse(TooMany, (30,), function, [0] * 31)
        for value in ([], [1], (1, 1), [1] * 4, [1] * 30):
            self.refuse(BadItem, (None,), reset.tell, value)
        self.assertEqual(state_of(reset), before)
        self.assertEqual((Reset([]).reachable(), Reset([400] * 30).reachable()), ((), (400,) * 30))

    def test_a_refused_sale_changes_nothing(self):
        reset = Reset([2, 1, 0])
        self.refuse(Refused, ("limit", 2), reset.sell, (0, 3))
        self.assertEqual(state_of(reset), ([2, 1, 0], [0, 0, 0], []))
