"""Promise 4: weeks of years."""

import datetime
import unittest

from recurwright.calendars import common
from recurwright.errors import BadDay
from recurwright.weeks import first_week, from_week, long_week_years, middle, week_of, week_start, weekdays_between
from recurwright.weeks import weeks_in
from tests.support import Table, all_calendars

COMMON = common()


class WeekTest(unittest.TestCase):
    def test_common_weeks_are_the_known_ones(self):
        self.assertEqual(middle(COMMON), 3)
        for ordinal in range(1, 3652059, 991):
            year, week, weekday = datetime.date.fromordinal(ordinal).isocalendar()
            self.assertEqual(week_of(COMMON, ordinal + 365), (year, week - 1, weekday - 1))
            self.assertEqual(from_week(COMMON, year, week - 1, weekday - 1).number, ordinal + 365)
        self.assertEqual(weeks_in(COMMON, 2026), 53)
        self.assertEqual(weeks_in(COMMON, 2027), 52)

    def test_middle_of_other_weeks(self):
        self.assertEqual([middle(calendar) for calendar in all_calendars()], [0, 2, 3, 3, 3, 3])

    def test_weeks_are_the_years_that_have_their_middles(self):
        for calendar in all_calendars():
            table = Table(calendar, -1300, 1300)
            starts = [number for number in range(-1200, 1200) if table.rows[number][3] == 0]
            by_year = {}
            for start in starts:
                by_year.setdefault(table.rows[start + middle(calendar)][0], []).append(start)
            for year in sorted(by_year)[1:-1]:
                self.assertEqual(weeks_in(calendar, year), len(by_year[year]))
                self.assertEqual(first_week(calendar, year), by_year[year][0])
                for week, start in enumerate(by_year[year]):
                    for weekday in range(calendar.week):
                        self.assertEqual(week_of(calendar, start + weekday), (year, week, weekday))
                        self.assertEqual(week_start(calendar, start + weekday), start)
                        self.assertEqual(from_week(calendar, year, week, weekday).number, start + weekday)

    def test_years_without_weeks(self):
        tiny = all_calendars()[4]
        counts = [weeks_in(tiny, year) for year in range(-20, 20)]
        self.assertEqual(sorted(set(counts)), [0, 1])
        with self.assertRaises(BadDay):
            from_week(tiny, range(-20, 20)[counts.index(0)], 0, 0)

    def test_refused_weeks(self):
        for year, week, weekday in ((2026, 53, 0), (2027, 52, 0), (2026, -1, 0), (2026, 0, 7), (2026, 0, -1)):
            with self.assertRaises(BadDay):
                from_week(COMMON, year, week, weekday)

    def test_long_week_years(self):
        self.assertEqual(long_week_years(COMMON, 2000, 2026), (2004, 2009, 2015, 2020, 2026))
        self.assertEqual(long_week_years(COMMON, 2026, 2026), (2026,))
        self.assertEqual(long_week_years(COMMON, 2027, 2026), ())

    def test_weekdays_between(self):
        for calendar in all_calendars():
            for weekday in range(calendar.week):
                for first in (-20, -1, 0, 13):
                    for last in range(first - 3, first + 40):
                        many = len([n for n in range(first, last) if calendar.weekday_of(n) == weekday])
                        self.assertEqual(weekdays_between(calendar, first, last, weekday), many)
            for weekday in (-1, calendar.week):
                with self.assertRaises(BadDay):
                    weekdays_between(calendar, 0, 10, weekday)
