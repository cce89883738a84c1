"""Promise 3: days on and back; and of promise 26, a day's fields."""

import unittest

from recurwright.calendars import Calendar, common
from recurwright.days import Day, age, between, day_of, months_on, moved, nth_weekday, quarter, years_on
from recurwright.errors import BadDay, BadSize
from tests.support import Table, all_calendars, small_calendars

COMMON = common()


def on(year, month, day):
    return day_of(COMMON, year, month, day)


class DayTest(unittest.TestCase):
    def test_parts_are_those_of_counting_on(self):
        for calendar in all_calendars():
            table = Table(calendar, -800, 800)
            for number in range(-400, 400):
                day = Day(calendar, number)
                self.assertEqual((day.year, day.month, day.day, day.weekday, day.year_day, day.week_number()),
                                 table.rows[number])
                self.assertEqual(day.number, number)
                self.assertEqual(day.left_in_month(), table.part(number, "back"))
                self.assertEqual(day.left_in_year(), table.part(number, "year back"))
                self.assertEqual(day.nth(), table.part(number, "nth"))
                self.assertEqual(day.nth_back(), table.part(number, "nth back"))
                self.assertEqual(day.month_number(), table.unit(number, "months"))
                self.assertEqual(day.shown(), table.rows[number][0:3])

    def test_day_of_and_moved(self):
        day = on(2026, 10, 18)
        self.assertEqual((day.weekday, day.year_day, day.calendar is COMMON), (3, 322, True))
        self.assertEqual(moved(day, 42).shown(), (2026, 11, 30))
        self.assertEqual(moved(day, 43).shown(), (2027, 0, 0))
        self.assertEqual(moved(Day(COMMON, 3), -4).shown(), (-1, 11, 30))
        with self.assertRaises(BadDay):
            day_of(COMMON, 2026, 1, 28)

    def test_months_and_years_on(self):
        self.assertEqual(months_on(on(2026, 0, 30), 1).shown(), (2026, 1, 27))
        self.assertEqual(months_on(on(2024, 0, 30), 1).shown(), (2024, 1, 28))
        self.assertEqual(months_on(on(2026, 0, 30), 2).shown(), (2026, 2, 30))
        self.assertEqual(months_on(on(2026, 0, 30), -2).shown(), (2025, 10, 29))
        self.assertEqual(months_on(on(0, 0, 5), -1).shown(), (-1, 11, 5))
        self.assertEqual(months_on(on(2026, 0, 30), 0, False).shown(), (2026, 0, 30))
        self.assertEqual(months_on(on(2026, 0, 27), 1, False).shown(), (2026, 1, 27))
        self.assertEqual(years_on(on(2024, 1, 28), 1).shown(), (2025, 1, 27))
        self.assertEqual(years_on(on(2024, 1, 28), 4, False).shown(), (2028, 1, 28))
        self.assertEqual(years_on(on(2024, 1, 28), -2025).shown(), (-1, 1, 27))
        for refused in ((months_on, on(2026, 0, 28), 1), (years_on, on(2024, 1, 28), 1)):
            with self.assertRaises(BadDay):
                refused[0](refused[1], refused[2], False)

    def test_nth_weekday(self):
        self.assertEqual(nth_weekday(COMMON, 2026, 10, 3, 3).shown(), (2026, 10, 25))
        self.assertEqual(nth_weekday(COMMON, 2026, 10, 0, -1).shown(), (2026, 10, 29))
        self.assertEqual(nth_weekday(COMMON, 2026, 10, 0, -5).shown(), (2026, 10, 1))
        for calendar in small_calendars():
            table = Table(calendar, -300, 300)
            for (year, month), numbers in table.months.items():
                if not -5 < year < 5:
                    continue
                for weekday in range(calendar.week):
                    good = [number for number in numbers if table.rows[number][3] == weekday]
                    for nth in range(-len(good), len(good)):
                        self.assertEqual(nth_weekday(calendar, year, month, weekday, nth).number, good[nth])
                    for nth in (len(good), -len(good) - 1):
                        with self.assertRaises(BadDay):
                            nth_weekday(calendar, year, month, weekday, nth)
        for year, month, weekday, nth in ((2026, 10, 7, 0), (2026, 10, -1, 0), (2026, 12, 0, 0), (2026, 10, 1, 4)):
            with self.assertRaises(BadDay):
                nth_weekday(COMMON, year, month, weekday, nth)

    def test_between_is_the_most_whole_months(self):
        for calendar in all_calendars():
            for first in range(-70, 70, 3):
                one = Day(calendar, first)
                for last in range(first, first + 130, 7):
                    other = Day(calendar, last)
                    months, days = between(one, other)
                    self.assertEqual(months_on(one, months).number + days, last)
                    self.assertTrue(days >= 0 and months_on(one, months + 1).number > last)

    def test_between_and_age(self):
        self.assertEqual(between(on(2026, 0, 30), on(2026, 1, 27)), (1, 0))
        self.assertEqual(between(on(2026, 0, 30), on(2026, 1, 26)), (0, 27))
        self.assertEqual(between(on(2026, 0, 30), on(2026, 2, 29)), (1, 30))
        self.assertEqual(between(on(-1, 11, 30), on(0, 0, 0)), (0, 1))
        self.assertEqual(age(on(2000, 1, 28), on(2001, 1, 27)), 1)
        self.assertEqual(age(on(2000, 1, 28), on(2001, 1, 26)), 0)
        self.assertEqual(age(on(-3, 5, 5), on(2, 5, 4)), 4)
        self.assertEqual(age(on(-3, 5, 5), on(2, 5, 5)), 5)
        for refused in (between, age):
            self.assertIn(refused(on(2000, 0, 0), on(2000, 0, 0)), (0, (0, 0)))
            with self.assertRaises(BadSize):
                refused(on(2000, 0, 1), on(2000, 0, 0))

    def test_quarter(self):
        self.assertEqual(quarter(on(2026, 10, 18), 3), (3, 1))
        self.assertEqual(quarter(on(2026, 10, 18), 12), (0, 10))
        self.assertEqual(quarter(on(2026, 0, 0), 1), (0, 0))
        self.assertEqual(quarter(Day(Calendar((3, 4, 5), 0, 1, (), 7), -1), 3), (0, 2))
        for many in (0, -3, 5, 24):
            with self.assertRaises(BadSize):
                quarter(on(2026, 10, 18), many)
