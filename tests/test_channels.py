"""Point 22: channels."""

from itertools import combinations_with_replacement, product
from random import Random

from keptnights.channels import Channel, is_sale
from keptnights.errors import BadItem, BadName, BadNumber, TooMany
from tests.support import ANYTHING, NO_NAMES, NO_NUMBERS, NO_SEQUENCES, NO_SPANS, Case, small_spans

PARTS = (((0, 1), 2), ((1, 2), 1), ((2, 3), 3), ((4, 5), 1))
NIGHTS = 5


def parts_of(numbers):
    return [((night, night + 1), number) for night, number in enumerate(numbers) if number is not None]


def can_be_sold(numbers, least_stay, spans):
    """Whether spans can be sold together, by the words of the point."""
    for night in range(NIGHTS + 1):
        number = (numbers[night] or 0) if night < len(numbers) else 0
        if sum(first <= night < leave for first, leave in spans) > number:
            return False
    return all(leave - first >= least_stay for first, leave in spans)


class TestChannels(Case):
    def test_the_example(self):
        web = Channel("web", [((0, 1), 2), ((1, 2), 1), ((2, 3), 3), ((4, 5), 1)], 3)
        self.assertEqual([web.at(2), web.worst(1), web.worst(2), web.worst_sales(1)], [3, 1, 1, ((0, 3),)])

    def test_fields(self):
        channel = self.ask(Channel, "web", PARTS, 14)
        self.assertEqual(channel.fields(), ("web", PARTS, 14))
        self.assertEqual((channel.name, channel.counts, channel.least_stay), channel.fields())
        self.assertEqual(self.ask(Channel, "a", []).fields(), ("a", (), 1))

    def test_equal(self):
        channel = Channel("web", PARTS, 3)
        self.assertTrue(channel == Channel("web", [[list(span), number] for span, number in PARTS], 3))
        for other in (Channel("wex", PARTS, 3), Channel("web", PARTS[1:], 3), Channel("web", PARTS, 2), PARTS, None, 1,
                      channel.fields()):
            self.assertFalse(channel == other)
            self.assertTrue(channel != other)

    def test_copies(self):
        counts = [[[0, 2], 5]]
        channel = Channel("a", counts)
        counts[0][0][1] = 9
        counts[0][1] = 8
        counts.append([[20, 21], 1])
        self.assertEqual(channel.counts, (((0, 2), 5),))

    def test_numbers_of_nights(self):
        random = Random(22)
        for _ in range(40):
            numbers = [random.choice((None, 0, 1, 2, 400)) for _ in range(NIGHTS)]
            channel = Channel("a", parts_of(numbers), 2)
            whole = {night: number or 0 for night, number in enumerate(numbers)}
            for night in range(NIGHTS + 3):
                self.assertEqual(self.ask(channel.at, night), whole.get(night, 0))
                for reach in range(NIGHTS + 2):
                    back = [whole.get(k, 0) for k in range(night - reach, night + 1)]
                    self.assertEqual(self.ask(channel.back, night, reach), min(back))
                    ahead = [whole.get(k, 0) for k in range(night, night + reach + 1)]
                    self.assertEqual(self.ask(channel.ahead, night, reach), min(ahead))

    def test_the_worst_of_all_sales(self):
        for numbers in product((0, 1, 2), repeat=NIGHTS):
            for least_stay in (1, 2, 3):
                channel = Channel("a", parts_of(numbers), least_stay)
                stays = [span for span in small_spans(NIGHTS) if span[1] - span[0] == least_stay]
                sold = [some for size in range(5) for some in combinations_with_replacement(stays, size)
                        if can_be_sold(numbers, least_stay, some)]
                for night in range(NIGHTS + 1):
                    worst = max(sum(first <= night < leave for first, leave in some) for some in sold)
                    self.assertEqual(channel.worst(night), worst)
                    sales = channel.worst_sales(night)
                    self.assertEqual(len([1 for first, leave in sales if first <= night < leave]), worst)
                    self.assertTrue(can_be_sold(numbers, least_stay, sales) and is_sale(channel, sales))
                    self.assertEqual(sales, tuple(sorted(sales)))

    def test_longer_stays_do_not_help(self):
        numbers = (1, 2, 1, 2, 1)
        channel = Channel("a", parts_of(numbers), 2)
        stays = [span for span in small_spans(NIGHTS) if span[1] - span[0] >= 2]
        for night in range(NIGHTS):
            worst = max(sum(first <= night < leave for first, leave in some) for size in range(4)
                        for some in combinations_with_replacement(stays, size) if can_be_sold(numbers, 2, some))
            self.assertEqual(self.ask(channel.worst, night), worst)
            self.ask(channel.worst_sales, night)

    def test_all_small_sales(self):
        for numbers, least_stay in (((1, 2, 0, 1), 1), ((2, 2, 1, None), 2), ((1, 1, 1, 1), 3)):
            channel = Channel("a", parts_of(numbers), least_stay)
            for size in range(4):
                for some in product(small_spans(NIGHTS), repeat=size):
                    self.assertIs(is_sale(channel, some), can_be_sold(numbers, least_stay, some))

    def test_sales_of_long_parts(self):
        channel = Channel("a", [((0, 10), 2), ((10, 36525), 1)], 2)
        self.assertTrue(self.ask(is_sale, channel, [(0, 36525), (8, 10)]))
        self.assertFalse(self.ask(is_sale, channel, [(0, 36525), (8, 11)]))
        self.assertFalse(self.ask(is_sale, Channel("a", [((0, 4), 2), ((5, 9), 2)]), [(3, 6)]))
        self.assertTrue(self.ask(is_sale, channel, []))

    def test_sales_of_other_values(self):
        channel = Channel("a", [((0, 9), 400)])
        for value in ANYTHING:
            self.assertIs(is_sale(channel, value), value in ([], (), [(0, 1)], [[0, 1]]))
        for value in NO_SPANS:
            self.assertIs(is_sale(channel, [(0, 1), value]), False)

    def test_the_ends_of_the_calendar(self):
        channel = Channel("a", [((0, 36525), 400)], 14)
        self.assertEqual([channel.worst(0), channel.worst(36524), channel.worst(36525)], [400, 400, 0])
        self.assertEqual(channel.worst_sales(0), ((0, 14),) * 400)
        self.assertEqual(channel.worst_sales(36524), ((36511, 36525),) * 400)

    def test_wrong_fields(self):
        for value in NO_NAMES:
            self.refuse(BadName, (value,), Channel, value, None, None)
        for value in NO_SEQUENCES:
            self.refuse(BadItem, (None,), Channel, "a", value, None)
        for value in [(span, 1) for span in NO_SPANS] + [((3, 4), number) for number in NO_NUMBERS + (-1, 401)]:
            self.refuse(BadItem, (1,), Channel, "a", [((0, 1), 1), value], None)
        for value in (None, 1, "ab", (), ((3, 4),), ((3, 4), 1, 1), (3, 4)):
            self.refuse(BadItem, (1,), Channel, "a", [((0, 1), 1), value], None)
        for value in NO_NUMBERS + (-1, 0, 15):
            self.refuse(BadNumber, (value,), Channel, "a", [], value)

    def test_the_order_of_the_errors_of_parts(self):
        many = [((2 * k, 2 * k + 1), 400) for k in range(61)]
        self.assertEqual(len(Channel("a", many[:60]).counts), 60)
        self.refuse(TooMany, (60,), Channel, "a", many[::-1], 99)
        self.refuse(BadItem, (61,), Channel, "a", many + [0], 99)
        self.refuse(BadItem, (2,), Channel, "a", [((0, 2), 1), ((2, 5), 1), ((4, 6), 1), ((0, 1), 1)], 99)
        self.refuse(BadItem, (1,), Channel, "a", [((5, 6), 1), ((0, 1), 1)], 99)
        self.refuse(BadItem, (1,), Channel, "a", [((0, 1), 1), ((0, 1), 1)], 99)
