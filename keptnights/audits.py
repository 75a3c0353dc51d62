"""Audits: days are closed; what is told of them later is entered by later closings."""

from keptnights.checks import want_number
from keptnights.daily import daily_of, gathered, on_day
from keptnights.errors import Closed

MOST_DAY = 99999


class Audit:
    """The entries (number of the closing, day, cents) of all closings."""

    def __init__(self, rules):
        self.rules = rules
        self.posts = ()
        self.closings = ()

    def __len__(self):
        return len(self.closings)

    @property
    def entries(self):
        """All entries, in their sequence."""
        return self.posts

    @property
    def closed(self):
        """The last closed day, None if none is closed."""
        return self.closings[-1] if len(self.closings) > 0 else None

    @property
    def days_closed(self):
        """The days of all closings."""
        return self.closings

    def posted(self, day):
        """The sum of the entries of a day."""
        return on_day([(one, cents) for _, one, cents in self.posts], day)

    def posted_days(self):
        """The days with entries, ascending."""
        return tuple(sorted(list({day: True for _, day, _ in self.posts})))

    def differences(self, day, folios):
        """The pairs (day, cents) that closing a day would enter."""
        pairs = list(daily_of(self.rules, folios))
        pairs.extend([(one, -cents) for _, one, cents in self.posts])
        return tuple([pair for pair in gathered(pairs) if pair[0] <= day])

    def close(self, day, folios):
        """Close a day and all days ahead of it; the new entries are returned."""
        want_number(day, 0, MOST_DAY)
        if len(self.closings) > 0 and day <= self.closings[-1]:
            raise Closed(day)
        number = len(self.closings)
        added = tuple([(number, one, cents) for one, cents in self.differences(day, folios)])
        self.posts = self.posts + added
        self.closings = self.closings + (day,)
        return added

    def is_square(self, folios):
        """Whether the entries of all closed days add up to what the folios bring."""
        return len(self.closings) == 0 or len(self.differences(self.closings[-1], folios)) == 0

    def corrections(self):
        """The entries for days that an earlier closing had closed."""
        return tuple([post for post in self.posts if post[0] > 0 and post[1] <= self.closings[post[0] - 1]])

    def report(self, closing):
        """The pairs (day, cents) of a closing."""
        return tuple([(day, cents) for number, day, cents in self.posts if number == closing])

    def total(self):
        """The sum of all entries."""
        return sum([cents for _, _, cents in self.posts])
