"""Sets of nights."""

from keptnights.checks import copied_spans, is_night
from keptnights.dates import weekday
from keptnights.spans import has_night, is_within, merged_spans, nights_of

MOST_SPANS = 400


def runs_of(nights):
    """The spans of nights that are passed one by one."""
    return merged_spans([(night, night + 1) for night in nights])


class Nights:
    """The set of the nights of some spans."""

    def __init__(self, spans):
        self.spans = merged_spans(copied_spans(spans, MOST_SPANS))
        self._nights = tuple([night for span in self.spans for night in nights_of(span)])

    def __len__(self):
        return len(self._nights)

    def __iter__(self):
        return iter(self._nights)

    def __contains__(self, x):
        return is_night(x) and any([has_night(span, x) for span in self.spans])

    def __eq__(self, other):
        return isinstance(other, Nights) and self.spans == other.spans

    def __or__(self, other):
        return Nights(merged_spans(self.spans + other.spans))

    def __and__(self, other):
        there = {night: True for night in other._nights}
        return Nights(runs_of([night for night in self._nights if night in there]))

    def __sub__(self, other):
        there = {night: True for night in other._nights}
        return Nights(runs_of([night for night in self._nights if night not in there]))

    def covers(self, span):
        """Whether the set has all nights of a span."""
        return any([is_within(span, own) for own in self.spans])

    def on_weekdays(self, days):
        """The set of those nights that begin on one of the weekdays."""
        return Nights(runs_of([night for night in self._nights if weekday(night) in days]))

    def gaps(self):
        """The spans between the spans of the set."""
        many = len(self.spans)
        return tuple([(self.spans[k][1], self.spans[k + 1][0]) for k in range(many - 1)])
