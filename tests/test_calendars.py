"""Promise 2: calendars; and of promises 1 and 26, their kinds of values and fields."""

import datetime
import unittest

from recurwright import errors
from recurwright.calendars import Calendar, common, kinds_of_years
from recurwright.errors import BadCalendar, BadDay
from tests.support import Table, all_calendars, small_calendars

ERRORS = ("BadCalendar", "BadDay", "BadTime", "BadRule", "BadZone", "BadSize",
          "BadPaper", "BadText", "BadStore", "NoDay", "NoSuch")


class ErrorsTest(unittest.TestCase):
    def test_all_stand_under_one(self):
        self.assertTrue(issubclass(errors.CalendarFault, ValueError))
        for name in ERRORS:
            self.assertTrue(issubclass(getattr(errors, name), errors.CalendarFault), name)
            for other in ERRORS:
                if other != name:
                    self.assertFalse(issubclass(getattr(errors, name), getattr(errors, other)), name)


class CalendarTest(unittest.TestCase):
    def test_days_are_those_of_counting_on(self):
        for calendar in all_calendars():
            table = Table(calendar, -1500, 1500)
            for number, (year, month, day, weekday, year_day, _) in table.rows.items():
                self.assertEqual(calendar.date(number), (year, month, day))
                self.assertEqual(calendar.year_of(number), year)
                self.assertEqual(calendar.number_of(year, month, day), number)
                self.assertEqual(calendar.weekday_of(number), weekday)
                self.assertEqual(calendar.first_of(year) + year_day, number)

    def test_sizes_are_those_of_counting_on(self):
        for calendar in small_calendars():
            table = Table(calendar, -500, 500)
            for year in range(-5, 6):
                self.assertEqual(calendar.year_days(year), len(table.years[year]))
                for month in range(len(calendar.months)):
                    self.assertEqual(calendar.month_days(year, month), len(table.months[year, month]))
            cycle = [number for year in range(calendar.cycle) for number in table.years[year]]
            self.assertEqual(calendar.cycle_days(), len(cycle))

    def test_far_ahead_and_back_by_whole_cycles(self):
        for calendar in all_calendars():
            for times in (10 ** 9, -(10 ** 9), -1, 1):
                far = times * calendar.cycle_days()
                for number in (0, 1, -1, 17, calendar.cycle_days() - 1):
                    year, month, day = calendar.date(number)
                    there = (year + times * calendar.cycle, month, day)
                    self.assertEqual(calendar.date(number + far), there)
                    self.assertEqual(calendar.number_of(*there), number + far)

    def test_common_calendar(self):
        calendar = common()
        self.assertEqual(calendar.shown()[0], (31, 28, 31, 30, 31, 30, 31, 31, 30, 31, 30, 31))
        self.assertEqual(calendar.cycle_days(), 146097)
        self.assertEqual(calendar.weekday_of(0), 5)
        longs = [year for year in (1896, 1900, 1999, 2000, 2004, 2100, -4, -100, -400, 0) if calendar.is_long(year)]
        self.assertEqual(longs, [1896, 2000, 2004, -4, -400, 0])
        for ordinal in range(1, 3652059, 9973):
            date = datetime.date.fromordinal(ordinal)
            self.assertEqual(calendar.date(ordinal + 365), (date.year, date.month - 1, date.day - 1))
            self.assertEqual(calendar.weekday_of(ordinal + 365), date.weekday())

    def test_first_and_last_days(self):
        calendar = common()
        self.assertEqual(calendar.number_of(0, 0, 0), 0)
        self.assertEqual(calendar.date(-1), (-1, 11, 30))
        self.assertEqual(calendar.number_of(2000, 1, 28) + 1, calendar.number_of(2000, 2, 0))
        self.assertEqual(calendar.number_of(1900, 1, 27) + 1, calendar.number_of(1900, 2, 0))
        self.assertEqual(calendar.number_of(1999, 11, 30) + 1, calendar.first_of(2000))

    def test_shown_and_fields(self):
        calendar = Calendar([3, 4], 1, 4, [0, 2], 5, 2)
        self.assertEqual(calendar.shown(), ((3, 4), 1, 4, (0, 2), 5, 2))
        self.assertEqual((calendar.months, calendar.long_years), ((3, 4), (0, 2)))
        self.assertEqual((calendar.long_month, calendar.cycle), (1, 4))
        self.assertEqual((calendar.week, calendar.first_weekday), (5, 2))
        self.assertIsInstance(calendar.starts, list)
        self.assertEqual(Calendar((3,), 0, 1, (), 2).first_weekday, 0)

    def test_kinds_of_years(self):
        kinds = kinds_of_years(common())
        self.assertEqual(kinds, tuple(sorted((long, weekday) for long in (False, True) for weekday in range(7))))
        for calendar in small_calendars() + [Calendar((5,), 0, 3, (1,), 7)]:
            seen = {(calendar.is_long(year), calendar.weekday_of(calendar.first_of(year))) for year in range(-99, 99)}
            self.assertEqual(kinds_of_years(calendar), tuple(sorted(seen)))

    def test_refused_calendars(self):
        good = ((3, 4), 1, 4, (0, 2), 5, 2)
        bad = [(0, ()), (0, (3, 0)), (0, (-1, 3)), (2, 0), (2, -1), (4, 0), (5, -1), (5, 5),
               (1, 2), (1, -1), (3, (4,)), (3, (-1,)), (3, (0, 4))]
        Calendar(*good)
        for place, value in bad:
            with self.assertRaises(BadCalendar, msg=(place, value)):
                Calendar(*good[:place], value, *good[place + 1:])
        for months, long_month, cycle in (((3,), 1, 1), ((3,), 0, 0), ((3,), 0, -1), ((0,), 0, 1)):
            with self.assertRaises(BadCalendar):
                Calendar(months, long_month, cycle, (), 2)
        self.assertEqual(Calendar((1,), 0, 1, (), 1).date(-5), (-5, 0, 0))

    def test_refused_days(self):
        calendar = common()
        for month in (-1, 12):
            with self.assertRaises(BadDay):
                calendar.month_days(2000, month)
            with self.assertRaises(BadDay):
                calendar.number_of(2000, month, 0)
        for year, month, day in ((2000, 1, 29), (2001, 1, 28), (2000, 0, 31), (2000, 0, -1)):
            with self.assertRaises(BadDay):
                calendar.number_of(year, month, day)
