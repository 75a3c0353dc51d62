"""Points 44 and 45: gates."""

from fractions import Fraction
from itertools import product
from random import Random

from keptnights.errors import BadItem, BadNumber, TooMany
from keptnights.gates import Gate
from keptnights.shares import best_quotas, best_share
from tests.support import ANYTHING, NO_NUMBERS, Case
from tests.test_shares import all_quotas, share_by_words, wrong_pays


def course_by_words(rooms, pays, quotas, arrivals):
    """The answers of a gate, what those let in pay, and the most that all could have paid."""
    inside, answers = [], []
    for number in arrivals:
        fits = all(sum(k <= one for one in inside) < sum(quotas[k:]) for k in range(number + 1))
        answers.append(fits)
        if fits:
            inside.append(number)
    best = sum(sorted((pays[number] for number in arrivals), reverse=True)[:rooms])
    return tuple(answers), sum(pays[number] for number in inside), best


class TestGates(Case):
    def test_all_courses_of_few_guests(self):
        for rooms, pays, most in ((1, (5, 3), 4), (2, (5, 3), 5), (3, (7, 4), 6), (2, (9, 5, 2), 5), (2, (9, 8, 7), 4)):
            for quotas in all_quotas(rooms, len(pays)):
                share = share_by_words(rooms, pays, quotas)
                least = Fraction(1)
                for many in range(most + 1):
                    for arrivals in product(range(len(pays)), repeat=many):
                        gate = Gate(rooms, pays, quotas)
                        answers, income, best = course_by_words(rooms, pays, quotas, arrivals)
                        self.assertEqual(gate.ask_all(arrivals), answers)
                        self.assertEqual((gate.income(), gate.best_income()), (income, best))
                        ratio = Fraction(income, best) if arrivals else Fraction(1)
                        self.assertEqual(gate.share(), (ratio.numerator, ratio.denominator))
                        self.assertIs(gate.is_sure(), True)
                        self.assertEqual(gate.free(), rooms - sum(answers))
                        self.assertTrue(ratio >= share and gate.free() >= 0)
                        least = min(least, ratio)
                if most >= rooms * len(pays):
                    self.assertEqual(least, share)

    def test_long_courses(self):
        random = Random(45)
        for _ in range(40):
            rooms = random.randint(1, 30)
            pays = sorted(random.sample(range(1, 100), random.randint(1, 6)), reverse=True)
            quotas = best_quotas(rooms, pays)
            gate, arrivals = Gate(rooms, pays, quotas), []
            for _ in range(60):
                number = random.randrange(len(pays))
                arrivals.append(number)
                expected = gate.lets_in(number)
                self.assertIs(self.ask(gate.lets_in, number), expected)
                self.assertIs(gate.ask(number), expected)
                self.assertTrue(gate.is_sure())
            answers, income, best = course_by_words(rooms, pays, quotas, arrivals)
            self.assertEqual((gate.income(), gate.best_income(), gate.free()), (income, best, rooms - sum(answers)))
            self.assertTrue(Fraction(income, best) >= Fraction(*best_share(rooms, pays)))

    def test_fields_and_state(self):
        gate = self.ask(Gate, 4, [9, 5, 2], [1, 0, 2])
        self.assertEqual((gate.rooms, gate.pays, gate.quotas), (4, (9, 5, 2), (1, 0, 2)))
        self.assertEqual(gate.state(), (4, (9, 5, 2), (1, 0, 2), (0, 0, 0), (0, 0, 0)))
        self.assertEqual(gate.ask_all([2, 1, 1, 0]), (True, True, False, True))
        self.assertEqual(gate.state(), (4, (9, 5, 2), (1, 0, 2), (1, 2, 1), (1, 1, 1)))
        self.assertEqual((gate.lets_in(0), gate.lets_in(2), gate.free()), (False, False, 1))
        self.assertEqual((gate.income(), gate.best_income(), gate.share()), (16, 21, (16, 21)))

    def test_nobody_at_the_gate(self):
        gate = Gate(2, [5, 3], [0, 0])
        self.assertEqual((gate.share(), gate.income(), gate.best_income(), gate.free(), gate.is_sure()), ((1, 1), 0, 0, 2, True))
        self.assertEqual(gate.ask_all([]), ())
        self.assertEqual((gate.ask(0), gate.share(), gate.is_sure()), (False, (0, 1), True))

    def test_one_room_and_one_class(self):
        gate = Gate(1, [7], [1])
        self.assertEqual((gate.ask_all((0, 0)), gate.share(), gate.free()), ((True, False), (1, 1), 0))

    def test_equal(self):
        one, two = Gate(2, [5, 3], [1, 1]), Gate(2, (5, 3), (1, 1))
        self.assertTrue(one == two)
        one.ask(1)
        self.assertFalse(one == two)
        two.ask(1)
        self.assertFalse(one != two)
        for other in (Gate(3, [5, 3], [1, 1]), Gate(2, [5, 2], [1, 1]), Gate(2, [5, 3], [0, 2]), one.state(), None, 2):
            self.assertTrue(Gate(2, [5, 3], [1, 1]) != other)

    def test_a_gate_that_earns_less_than_its_share(self):
        # A gate that was broken from outside is not sure any more.
        gate = Gate(2, [5, 3], [0, 2])
        gate.ask_all([1, 1])
        gate.asked = (2, 2)
        self.assertIs(gate.is_sure(), True)
        gate.admitted = (0, 1)
        self.assertIs(gate.is_sure(), False)

    def test_copies(self):
        pays, quotas = [5, 3], [1, 1]
        gate = Gate(2, pays, quotas)
        pays[0] = quotas[0] = 9
        self.assertEqual(gate.state(), (2, (5, 3), (1, 1), (0, 0), (0, 0)))

    def test_wrong_rooms(self):
        for value in NO_NUMBERS + (0, -1, 201):
            self.refuse(BadNumber, (value,), Gate, value, None, None)

    def test_wrong_pays(self):
        for value, index in wrong_pays():
            self.refuse(BadItem, (index,), Gate, 5, value, None)
        self.refuse(TooMany, (6,), Gate, 200, [7, 6, 5, 4, 3, 2, 1], None)
        self.assertEqual(Gate(200, [9999, 6, 5, 4, 3, 1], [0] * 6).free(), 200)

    def test_wrong_quotas(self):
        for value in [value for value in ANYTHING if value != (0, 1)] + [[3, 3], [5, 1], [1], [-1, 2], [1, True], [1, 2, 0]]:
            self.refuse(BadItem, (None,), Gate, 5, [5, 3], value)
            self.refuse(BadItem, (None,), Gate, quotas=value, pays=[5, 3], rooms=5)

    def test_wrong_classes(self):
        gate = Gate(5, [5, 3], [2, 2])
        gate.ask(1)
        before = gate.state()
        for value in NO_NUMBERS + (-1, 2):
            self.refuse(BadNumber, (value,), gate.ask, value)
            self.refuse(BadNumber, (value,), gate.lets_in, value)
            self.refuse(BadNumber, (value,), gate.ask_all, [0, 1, value, None])
            self.assertEqual(gate.state(), before)

    def test_the_largest_gate(self):
        pays = [9999, 5000, 2500, 1200, 600, 300]
        gate = Gate(200, pays, best_quotas(200, pays))
        random = Random(450)
        gate.ask_all([random.randrange(6) for _ in range(3000)])
        self.assertTrue(gate.is_sure())
