"""Point 5: the calendar."""

import datetime

from keptnights.dates import date_of, date_text, month_span, next_weekday, night_of, read_date, weekday
from keptnights.errors import BadDate, BadNumber
from tests.support import NO_NUMBERS, Case

NO_NIGHTS = NO_NUMBERS + (-1, 36525)


class TestDates(Case):
    def test_the_example(self):
        self.assertEqual([night_of(2026, 11, 19), weekday(9819), date_text(9819)], [9819, 3, "2026-11-19"])

    def test_every_night_of_the_calendar(self):
        day = datetime.date(2000, 1, 1)
        for night in range(36525):
            self.assertEqual(date_of(night), (day.year, day.month, day.day))
            self.assertEqual(night_of(day.year, day.month, day.day), night)
            self.assertEqual(weekday(night), day.weekday())
            self.assertEqual(date_text(night), day.isoformat())
            self.assertEqual(read_date(day.isoformat()), night)
            day = day + datetime.timedelta(days=1)
        self.assertEqual(day, datetime.date(2100, 1, 1))

    def test_by_name(self):
        self.assertEqual(self.ask(night_of, 2000, 1, 1), 0)
        self.assertEqual(self.ask(date_of, 36524), (2099, 12, 31))
        self.assertEqual(self.ask(weekday, 0), 5)
        self.assertEqual(self.ask(month_span, 2099, 12), (36494, 36525))
        self.assertEqual(self.ask(date_text, 0), "2000-01-01")
        self.assertEqual(self.ask(read_date, "2000-02-29"), 59)
        self.assertEqual(self.ask(next_weekday, 0, 5), 0)

    def test_no_dates(self):
        for date in ((1999, 12, 31), (2100, 1, 1), (2001, 2, 29), (2000, 2, 30), (2004, 4, 31), (2004, 0, 1),
                     (2004, 13, 1), (2004, 1, 0), (2004, 1, 32), (2004, -1, 1), (2004, 1, -1)):
            self.refuse(BadDate, (date,), night_of, *date)
        for value in NO_NUMBERS:
            for date in ((value, 1, 1), (2004, value, 1), (2004, 1, value)):
                self.refuse(BadDate, (date,), night_of, *date)
        self.refuse(BadDate, ((2001, 2, 29),), night_of, day=29, month=2, year=2001)

    def test_no_nights(self):
        for value in NO_NIGHTS:
            self.refuse(BadNumber, (value,), date_of, value)
            self.refuse(BadNumber, (value,), weekday, value)

    def test_months(self):
        for year in (2000, 2001, 2004, 2099):
            for month in range(1, 13):
                first, leave = month_span(year, month)
                self.assertEqual(first, night_of(year, month, 1))
                self.assertEqual(date_of(leave - 1)[:2], (year, month))
                self.assertTrue(leave == 36525 or date_of(leave)[2] == 1)
        self.assertEqual(month_span(2000, 2), (31, 60))
        for value in NO_NUMBERS + (0, 13):
            self.refuse(BadDate, ((2000, value, 1),), month_span, 2000, value)
        for value in NO_NUMBERS + (1999, 2100):
            self.refuse(BadDate, ((value, 1, 1),), month_span, value, 1)

    def test_other_texts(self):
        for text in ("", "2026", "2026-11", "2026-11-19 ", " 2026-11-19", "2026-11-19\n", "2026-1-19", "2026-11-9",
                     "02026-11-19", "2026-011-19", "2026/11/19", "20261119", "2026-11-31", "2026-02-29", "1999-12-31",
                     "2100-01-01", "2026-00-01", "2026-01-00", "2026-13-01", "+026-11-19", "2026-+1-19", "-026-11-19",
                     "2026--1-19", "2026-11-19-", "2_26-11-19", "\u0662026-11-19", "2026-11-\u00b2\u00b2", "abcd-ef-gh",
                     "2026-11-1a", "2026 11 19", "2026-11--9"):
            self.refuse(BadDate, (text,), read_date, text)

    def test_next_weekday(self):
        for night in (0, 1, 58, 9819, 36511):
            for day in range(7):
                found = self.ask(next_weekday, night, day)
                self.assertTrue(night <= found < night + 7 and weekday(found) == day)
        self.assertEqual(next_weekday(36524, weekday(36524)), 36524)

    def test_next_weekday_behind_the_calendar(self):
        day = weekday(36524)
        for more in range(1, 7):
            self.refuse(BadNumber, (36524 + more,), next_weekday, 36524, (day + more) % 7)

    def test_next_weekday_looks_at_the_weekday_first(self):
        for value in NO_NUMBERS + (-1, 7):
            self.refuse(BadNumber, (value,), next_weekday, 3, value)
            self.refuse(BadNumber, (value,), next_weekday, "no night", value)
        for value in NO_NIGHTS:
            self.refuse(BadNumber, (value,), next_weekday, value, 0)
