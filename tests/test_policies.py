"""Point 38: policies."""

from random import Random

from keptnights.errors import BadItem, BadNumber, TooMany
from keptnights.policies import Policy
from tests.support import NO_NUMBERS, NO_SEQUENCES, Case, as_lists

STEPS = ((30, 0), (14, 1), (3, 2))


def charged_by_words(policy, minute, first):
    for days, nights in policy.steps:
        if days <= first - minute // 1440:
            return nights
    return policy.late


class TestPolicies(Case):
    def test_fields(self):
        policy = self.ask(Policy, STEPS, 4, 5)
        self.assertEqual((policy.steps, policy.late, policy.absent), (STEPS, 4, 5))
        self.assertEqual(policy.fields(), (STEPS, 4, 5))
        self.assertEqual(Policy([], 0, 60).fields(), ((), 0, 60))
        self.assertEqual(Policy([[400, 60], (0, 0)], absent=0, late=60).fields(), (((400, 60), (0, 0)), 60, 0))

    def test_equal(self):
        self.assertTrue(Policy(STEPS, 4, 5) == Policy(as_lists(STEPS), 4, 5))
        self.assertFalse(Policy(STEPS, 4, 5) != Policy(STEPS, 4, 5))
        for other in (Policy(STEPS[:2], 4, 5), Policy(STEPS, 3, 5), Policy(STEPS, 4, 6), (STEPS, 4, 5), None, 4):
            self.assertTrue(Policy(STEPS, 4, 5) != other)
            self.assertFalse(Policy(STEPS, 4, 5) == other)

    def test_copies(self):
        steps = as_lists(STEPS)
        policy = Policy(steps, 4, 5)
        steps[0][1] = 9
        steps.pop()
        self.assertEqual(policy.steps, STEPS)

    def test_a_minute_at_and_behind_a_step(self):
        policy = Policy(STEPS, 4, 5)
        for days, nights, later in ((30, 0, 1), (14, 1, 2), (3, 2, 4)):
            last = (100 - days + 1) * 1440 - 1
            self.assertEqual(self.ask(policy.nights_charged, last, 100), nights)
            self.assertEqual(self.ask(policy.nights_charged, last - 1439, 100), nights)
            self.assertEqual(self.ask(policy.nights_charged, last + 1, 100), later)
        self.assertEqual([policy.nights_charged(minute, 100) for minute in (0, 100 * 1440, 99999999)], [0, 4, 4])
        self.assertEqual(policy.nights_charged(99999999, 0), 4)

    def test_steps_of_no_day(self):
        policy = Policy([(0, 7)], 9, 0)
        self.assertEqual([policy.nights_charged(minute, 3) for minute in (0, 3 * 1440, 4 * 1440 - 1, 4 * 1440)], [7, 7, 7, 9])
        self.assertEqual([Policy((), 9, 0).nights_charged(minute, 3) for minute in (0, 4 * 1440)], [9, 9])

    def test_against_the_words_of_the_point(self):
        random = Random(38)
        for _ in range(200):
            days = sorted(random.sample(range(12), random.randrange(5)), reverse=True)
            policy = Policy([(day, random.randrange(61)) for day in days], random.randrange(61), random.randrange(61))
            for _ in range(20):
                minute, first = random.randrange(20 * 1440), random.randrange(20)
                self.assertEqual(policy.nights_charged(minute, first), charged_by_words(policy, minute, first))

    def test_penalties(self):
        policy = Policy(STEPS, 4, 5)
        rates = (100, 20, 3)
        self.assertEqual([self.ask(policy.penalty, rates, nights) for nights in (0, 1, 2, 3, 4, 60)],
                         [0, 100, 120, 123, 123, 123])
        self.assertEqual(policy.penalty((), 5), 0)

    def test_mild(self):
        for steps, late, absent, mild in ((STEPS, 2, 2, True), (STEPS, 1, 5, False), (STEPS, 4, 3, False), ((), 1, 0, False),
                                          ((), 0, 0, True), (((5, 2), (4, 1)), 9, 9, False), (((5, 2), (4, 2)), 2, 2, True)):
            self.assertIs(Policy(steps, late, absent).is_mild(), mild)

    def test_the_largest_policy(self):
        steps = [(400 - 40 * k, 60) for k in range(10)]
        self.assertEqual(Policy(steps, 60, 60).nights_charged(0, 39), 60)
        self.assertEqual(len(Policy(steps, 60, 60).steps), 10)


class TestWrongPolicies(Case):
    def test_steps(self):
        for value in NO_SEQUENCES:
            self.refuse(BadItem, (None,), Policy, value, -1, -1)
        wrong = [None, "ab", (), (1,), (1, 1, 1), {1: 1, 2: 2}] + [(value, 1) for value in NO_NUMBERS + (-1, 401)]
        for value in wrong + [(1, value) for value in NO_NUMBERS + (-1, 61)]:
            self.refuse(BadItem, (1,), Policy, [(5, 5), value, None], -1, -1)
            self.refuse(BadItem, (11,), Policy, [(5, 5)] * 11 + [value], 1, 1)

    def test_the_number_of_steps_and_their_order(self):
        many = [(20 - k, 0) for k in range(11)]
        self.refuse(TooMany, (10,), Policy, many, -1, -1)
        self.refuse(TooMany, (10,), Policy, many[::-1], 1, 1)
        for days, index in (((5, 5), 1), ((5, 4, 6, 7), 2), ((5, 4, 3, 3), 3), ((0, 1), 1)):
            self.refuse(BadItem, (index,), Policy, [(day, 0) for day in days], -1, -1)

    def test_numbers(self):
        for value in NO_NUMBERS + (-1, 61):
            self.refuse(BadNumber, (value,), Policy, STEPS, value, None)
            self.refuse(BadNumber, (value,), Policy, STEPS, 60, value)
            self.refuse(BadNumber, (value,), Policy, absent=None, late=value, steps=())
