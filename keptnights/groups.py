"""Groups: some of the guests come, and some of these stay on."""

from keptnights.checks import are_ascending, are_between, copied_spans, is_between, is_row, is_sequence
from keptnights.checks import want_name, want_number
from keptnights.spans import has_night, longer

MOST_STAYS = 30
MOST_LATE_NIGHTS = 7


class Group:
    """Stays of which at least least and at most most guests come; a few of these stay on."""

    def __init__(self, name, spans, least, most, late_guests=0, late_nights=0):
        want_name(name)
        copied = copied_spans(spans, MOST_STAYS)
        want_number(most, 0, len(copied))
        want_number(least, 0, most)
        want_number(late_guests, 0, most)
        want_number(late_nights, 0, MOST_LATE_NIGHTS)
        self.name = name
        self.spans = copied
        self.least = least
        self.most = most
        self.late_guests = late_guests
        self.late_nights = late_nights

    def __len__(self):
        return len(self.spans)

    def __eq__(self, other):
        return isinstance(other, Group) and self.fields() == other.fields()

    def fields(self):
        """The fields in the order of the parameters."""
        return (self.name, self.spans, self.least, self.most, self.late_guests, self.late_nights)

    def there(self, night):
        """The indexes of the spans that have a night."""
        return tuple([index for index, span in enumerate(self.spans) if has_night(span, night)])

    def staying_on(self, night):
        """The indexes of the guests who can have a night by staying on."""
        by = self.late_nights
        return tuple([k for k, span in enumerate(self.spans) if span[1] <= night < span[1] + by])

    def worst(self, night):
        """The greatest number of guests who can be in the house at a night."""
        late = min(self.late_guests, len(self.staying_on(night)))
        return min(self.most, len(self.there(night)) + late)

    def worst_comers(self, night):
        """Pairs (index, nights more) with the greatest number of guests at a night."""
        comers = {index: 0 for index in self.there(night)[:self.most]}
        late = min(self.late_guests, self.most - len(comers))
        for index in self.staying_on(night)[:late]:
            comers[index] = night - self.spans[index][1] + 1
        # The others come only to make up the least number: they are not there at this night.
        others = [index for index in range(len(self.spans)) if index not in comers]
        for index in others[:max(0, self.least - len(comers))]:
            comers[index] = 0
        return tuple([(index, comers[index]) for index in sorted(list(comers))])


def is_coming(group, pairs):
    """Whether the guests of pairs (index, nights more) can be those who come."""
    if not is_sequence(pairs) or not all([is_row(pair, 2) for pair in pairs]):
        return False
    indexes = [pair[0] for pair in pairs]
    more = [pair[1] for pair in pairs]
    if not are_between(indexes, len(pairs), 0, len(group.spans) - 1) or not are_ascending(indexes):
        return False
    if not are_between(more, len(pairs), 0, group.late_nights):
        return False
    late = len([nights for nights in more if nights > 0])
    return is_between(len(pairs), group.least, group.most) and late <= group.late_guests


def stays_of(group, pairs):
    """The spans of the guests of pairs (index, nights more)."""
    return tuple([longer(group.spans[index], more) for index, more in pairs])
