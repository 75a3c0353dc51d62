"""Channels: at each night they may sell no more than a number, and only stays that are long enough."""

from keptnights.checks import is_between, is_row, is_sequence, is_span
from keptnights.checks import want_apart, want_name, want_number, want_right, want_sequence
from keptnights.loads import load_steps
from keptnights.spans import has_night, meeting, span_length

MOST_PARTS = 60
MOST_SALES = 400
LONGEST_LEAST_STAY = 14


def is_part(value):
    """Whether a value is a pair (span, number) of a channel."""
    return is_row(value, 2) and is_span(value[0]) and is_between(value[1], 0, MOST_SALES)


def copied_parts(value):
    """The pairs (span, number) of a sequence, ascending and apart, as tuples."""
    want_sequence(value)
    want_right([is_part(item) for item in value], MOST_PARTS)
    want_apart([span for span, _ in value])
    return tuple([(tuple(span), number) for span, number in value])


class Channel:
    """What an agent may still sell by itself."""

    def __init__(self, name, counts, least_stay=1):
        want_name(name)
        copied = copied_parts(counts)
        want_number(least_stay, 1, LONGEST_LEAST_STAY)
        self.name = name
        self.counts = copied
        self.least_stay = least_stay

    def __eq__(self, other):
        return isinstance(other, Channel) and self.fields() == other.fields()

    def fields(self):
        """The fields in the order of the parameters."""
        return (self.name, self.counts, self.least_stay)

    def at(self, night):
        """The number of a night."""
        for span, number in self.counts:
            if has_night(span, night):
                return number
        return 0

    def back(self, night, reach):
        """The least number of a night and of so many nights before it."""
        return least_number(self.counts, (night - reach, night + 1))

    def ahead(self, night, reach):
        """The least number of a night and of so many nights behind it."""
        return least_number(self.counts, (night, night + reach + 1))

    def worst(self, night):
        """The greatest number of stays with a night that can be sold together."""
        stay = self.least_stay
        row = numbers_within(self.counts, (night - stay + 1, night + stay))
        backs = running_least(row[:stay][::-1])
        aheads = running_least(row[stay - 1:])
        return min([backs[0]] + [backs[k] + aheads[stay - k] for k in range(1, stay)])

    def worst_sales(self, night):
        """Ascending spans that can be sold together, as many with a night as there can be."""
        stay = self.least_stay
        most = self.worst(night)
        # Of so many sales all that the nights before leave room for begin that early; by the
        # choice of the greatest number the nights behind have room for the others.
        early = [min(most, self.back(night, k)) for k in range(stay)] + [0]
        sales = []
        for k in reversed(range(stay)):
            sales.extend([(night - k, night - k + stay)] * (early[k] - early[k + 1]))
        return tuple(sales)


def numbers_within(counts, span):
    """The numbers of the nights of a span, by the parts of a channel."""
    row = [0] * span_length(span)
    for part, number in counts:
        common = meeting(part, span)
        if common is not None:
            for night in range(common[0], common[1]):
                row[night - span[0]] = number
    return row


def running_least(row):
    """For each item the least one of it and of all ahead of it."""
    least = []
    for number in row:
        least.append(min(number, least[-1]) if len(least) > 0 else number)
    return least


def least_number(counts, span):
    """The least number of the nights of a span, by the parts of a channel."""
    least = MOST_SALES
    counted = 0
    for part, number in counts:
        common = meeting(part, span)
        if common is not None:
            least = min(least, number)
            counted = counted + span_length(common)
    # A night in no part has the number 0.
    return least if counted == span_length(span) else 0


def is_sale(channel, spans):
    """Whether any spans can be sold together by a channel."""
    if not is_sequence(spans) or not all([is_span(span) for span in spans]):
        return False
    if any([span_length(span) < channel.least_stay for span in spans]):
        return False
    steps = load_steps(spans)
    for k in range(len(steps) - 1):
        night, many = steps[k]
        if many > least_number(channel.counts, (night, steps[k + 1][0])):
            return False
    return True
