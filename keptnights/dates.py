"""The calendar: nights, dates and weekdays from 2000 to 2099."""

from keptnights.checks import LAST_NIGHT, are_figures, is_between, is_night, want_number
from keptnights.errors import BadDate, BadNumber

FIRST_YEAR = 2000
LAST_YEAR = 2099
MONTH_DAYS = (31, 28, 31, 30, 31, 30, 31, 31, 30, 31, 30, 31)
# Night 0 begins on a Saturday.
FIRST_WEEKDAY = 5


def month_days(year, month):
    """The number of the days of a month."""
    # Every fourth year of this calendar is a leap year, 2000 as well.
    if month == 2 and year % 4 == 0:
        return 29
    return MONTH_DAYS[month - 1]


def is_date(year, month, day):
    """Whether three values are a date of the calendar."""
    if not is_between(year, FIRST_YEAR, LAST_YEAR) or not is_between(month, 1, 12):
        return False
    return is_between(day, 1, month_days(year, month))


def nights_before(year):
    """The number of the nights of the calendar ahead of a year."""
    years = year - FIRST_YEAR
    return years * 365 + (years + 3) // 4


def night_of(year, month, day):
    """The night that begins on a date."""
    if not is_date(year, month, day):
        raise BadDate((year, month, day))
    earlier = sum([month_days(year, k) for k in range(1, month)])
    return nights_before(year) + earlier + day - 1


def date_of(night):
    """The date (year, month, day) on which a night begins."""
    want_number(night, 0, LAST_NIGHT)
    # No year has more than 366 nights, so this is never a later year.
    year = FIRST_YEAR + night // 366
    while nights_before(year + 1) <= night:
        year = year + 1
    left = night - nights_before(year)
    month = 1
    while left >= month_days(year, month):
        left = left - month_days(year, month)
        month = month + 1
    return (year, month, left + 1)


def weekday(night):
    """The weekday on which a night begins, 0 for Monday."""
    want_number(night, 0, LAST_NIGHT)
    return (night + FIRST_WEEKDAY) % 7


def month_span(year, month):
    """The span of the nights of a month."""
    first = night_of(year, month, 1)
    return (first, first + month_days(year, month))


def date_text(night):
    """The date of a night as a text like 2026-11-19."""
    year, month, day = date_of(night)
    return f"{year}-{month:02d}-{day:02d}"


def read_date(text):
    """The night of a text like 2026-11-19."""
    if not isinstance(text, str):
        raise BadDate(text)
    parts = text.split("-")
    if [len(part) for part in parts] != [4, 2, 2] or not all([are_figures(part) for part in parts]):
        raise BadDate(text)
    year, month, day = [int(part) for part in parts]
    if not is_date(year, month, day):
        raise BadDate(text)
    return night_of(year, month, day)


def next_weekday(night, day):
    """The first night from this one on that begins on a weekday."""
    if not is_between(day, 0, 6):
        raise BadNumber(day)
    if not is_night(night):
        raise BadNumber(night)
    found = night + (day - weekday(night)) % 7
    if not is_night(found):
        raise BadNumber(found)
    return found
