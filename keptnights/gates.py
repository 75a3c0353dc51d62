"""Gates: guests of classes ask one after the other, and are let in by quotas or not."""

from keptnights.checks import is_between, want_number
from keptnights.errors import BadItem, BadNumber
from keptnights.shares import MOST_ROOMS, are_quotas, is_less, lowest, share_of, sums_behind, want_pays


def income_of(pays, guests):
    """What numbers of guests of the classes pay."""
    return sum([pay * many for pay, many in zip(pays, guests)])


class Gate:
    """A house that sells one night to guests who ask in any order."""

    def __init__(self, rooms, pays, quotas):
        want_number(rooms, 1, MOST_ROOMS)
        want_pays(pays)
        if not are_quotas(quotas, rooms, len(pays)):
            raise BadItem(None)
        self.rooms = rooms
        self.pays = tuple(pays)
        self.quotas = tuple(quotas)
        self.asked = (0,) * len(pays)
        self.admitted = (0,) * len(pays)

    def __eq__(self, other):
        return isinstance(other, Gate) and self.state() == other.state()

    def state(self):
        """The rooms, pays and quotas, and how many of each class asked, and were let in."""
        return (self.rooms, self.pays, self.quotas, self.asked, self.admitted)

    def want_class(self, number):
        """Raise BadNumber for any value that is no class."""
        if not is_between(number, 0, len(self.pays) - 1):
            raise BadNumber(number)

    def lets_in(self, number):
        """Whether a guest of a class would be let in now."""
        self.want_class(number)
        ahead = sums_behind(self.admitted)
        limits = sums_behind(self.quotas)
        return all([ahead[k] < limits[k] for k in range(number + 1)])

    def ask(self, number):
        """A guest of a class asks; whether the guest is let in."""
        answer = self.lets_in(number)
        self.asked = one_more(self.asked, number)
        if answer:
            self.admitted = one_more(self.admitted, number)
        return answer

    def ask_all(self, numbers):
        """Guests of classes ask one after the other; the answers."""
        for number in numbers:
            self.want_class(number)
        return tuple([self.ask(number) for number in numbers])

    def income(self):
        """What those who were let in pay."""
        return income_of(self.pays, self.admitted)

    def best_income(self):
        """The most that those who asked could have paid for the rooms."""
        best = 0
        left = self.rooms
        for pay, many in zip(self.pays, self.asked):
            best = best + pay * min(many, left)
            left = max(0, left - many)
        return best

    def share(self):
        """What is paid by the most that could have been paid, in lowest terms."""
        best = self.best_income()
        return (1, 1) if best == 0 else lowest(self.income(), best)

    def is_sure(self):
        """Whether this is at least the share of the quotas."""
        return not is_less(self.share(), share_of(self.rooms, self.pays, self.quotas))

    def free(self):
        """The rooms that nobody has."""
        return self.rooms - sum(self.admitted)


def one_more(counts, number):
    """Counts with one more at a number."""
    return tuple([many + 1 if k == number else many for k, many in enumerate(counts)])
