"""Quotas: how much of the most that they could pay the guests of a house surely pay."""

from math import gcd

from keptnights.checks import are_between, is_between, want_number, want_right, want_sequence
from keptnights.errors import BadItem

MOST_ROOMS = 200
MOST_PAY = 9999
MOST_CLASSES = 6


def want_pays(value):
    """Raise BadItem unless a value is a row of falling pays, TooMany for more than the most classes."""
    want_sequence(value)
    if len(value) == 0:
        raise BadItem(None)
    want_right([is_between(item, 1, MOST_PAY) for item in value], len(value))
    want_right([True] + [value[k] < value[k - 1] for k in range(1, len(value))], MOST_CLASSES)


def are_quotas(value, rooms, size):
    """Whether any value is a row of quotas for so many classes, together at most the rooms."""
    return are_between(value, size, 0, rooms) and sum(value) <= rooms


def sums_behind(numbers):
    """For each number the sum of it and of all behind it."""
    return tuple([sum(numbers[k:]) for k in range(len(numbers))])


def incomes_from(pays, quotas):
    """For each class what the quotas of it and of all later classes bring."""
    return sums_behind([pay * quota for pay, quota in zip(pays, quotas)])


def is_less(one, two):
    """Whether a fraction is less than another one."""
    return one[0] * two[1] < two[0] * one[1]


def lowest(top, bottom):
    """A fraction in lowest terms."""
    common = gcd(top, bottom)
    return (top // common, bottom // common)


def class_shares(rooms, pays, quotas):
    """For each class what the quotas from it on bring, and what the rooms would bring with it alone."""
    return tuple([(income, rooms * pay) for income, pay in zip(incomes_from(pays, quotas), pays)])


def first_least(shares):
    """The least one of some fractions, of equal ones the first."""
    least = shares[0]
    for share in shares:
        if is_less(share, least):
            least = share
    return least


def share_of(rooms, pays, quotas):
    """The share of quotas, in lowest terms."""
    top, bottom = first_least(class_shares(rooms, pays, quotas))
    return lowest(top, bottom)


def fewest_quotas(rooms, pays, share):
    """The fewest rooms for each class, from the last one on, that a share needs."""
    top, bottom = share
    income = 0
    quotas = []
    for pay in reversed(list(pays)):
        lacking = max(0, top * rooms * pay - bottom * income)
        quotas.append(-(-lacking // (bottom * pay)))
        income = income + pay * quotas[-1]
    return quotas[::-1]


def greatest_share(rooms, pays):
    """The greatest share of any quotas."""
    # Two shares of quotas that are not equal differ by more than one part of so many.
    parts = rooms * pays[0] * pays[0] + 1
    low = 0
    high = parts + 1
    while high - low > 1:
        middle = (low + high) // 2
        if sum(fewest_quotas(rooms, pays, (middle, parts))) <= rooms:
            low = middle
        else:
            high = middle
    return share_of(rooms, pays, fewest_quotas(rooms, pays, (low, parts)))


def best_quotas(rooms, pays):
    """The quotas with the greatest share and the fewest rooms for the later classes."""
    want_number(rooms, 1, MOST_ROOMS)
    want_pays(pays)
    quotas = fewest_quotas(rooms, pays, greatest_share(rooms, pays))
    quotas[0] = quotas[0] + rooms - sum(quotas)
    return tuple(quotas)


def best_share(rooms, pays):
    """The greatest share of any quotas, in lowest terms."""
    return share_of(rooms, pays, best_quotas(rooms, pays))


def worst_arrivals(rooms, pays, quotas):
    """Classes of guests, one for each, in whose course the gate earns the share of the quotas and no more."""
    shares = class_shares(rooms, pays, quotas)
    least = first_least(shares)
    last = max([number for number, share in enumerate(shares) if not is_less(least, share)])
    arrivals = []
    for number in range(len(pays) - 1, last - 1, -1):
        arrivals.extend([number] * rooms)
    return tuple(arrivals)
