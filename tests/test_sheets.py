"""Promise 28: months laid out, told and read."""

import random
import unittest

from recurwright.calendars import Calendar, common
from recurwright.days import Day
from recurwright.errors import BadDay, BadText
from recurwright.rules import Is, always, never
from recurwright.sheets import (
    day_by_sheet, marks, month_rows, next_same, read_month, same_sheet, told_month, year_sheet,
)
from tests.support import Table, small_calendars, some_rule

COMMON = common()
WIDE = Calendar((120, 3), 0, 3, (1,), 10, 4)
NINE = Calendar((8, 9), 0, 3, (1,), 4, 1)
NOVEMBER = (
    "                   1",
    " 2  3  4  5  6  7  8",
    " 9 10 11 12 13 14 15",
    "16 17 18 19 20*21 22",
    "23 24 25 26 27 28 29",
    "30*",
)


class RowsTest(unittest.TestCase):
    def test_known_rows(self):
        rows = month_rows(COMMON, 2026, 10)
        self.assertEqual(rows[0], (None, None, None, None, None, None, 0))
        self.assertEqual(rows[1], (1, 2, 3, 4, 5, 6, 7))
        self.assertEqual(rows[5], (29, None, None, None, None, None, None))
        self.assertEqual(len(rows), 6)
        # A month that begins with a week and fills four.
        self.assertEqual(month_rows(COMMON, 2027, 1), tuple(tuple(range(k, k + 7)) for k in (0, 7, 14, 21)))

    def test_as_going_through_days(self):
        for calendar in small_calendars() + [COMMON, WIDE, NINE]:
            table = Table(calendar, -150, 150)
            for (year, month), numbers in table.months.items():
                if len(numbers) == table.size(year, month):
                    rows = month_rows(calendar, year, month)
                    found = {}
                    for week, row in enumerate(rows):
                        self.assertEqual(len(row), calendar.week)
                        self.assertNotEqual(set(row), {None})
                        found.update({day: (week, weekday) for weekday, day in enumerate(row) if day is not None})
                    self.assertEqual(list(found), list(range(len(numbers))))
                    first = table.part(numbers[0], "weekday")
                    for day, (week, weekday) in found.items():
                        self.assertEqual(week * calendar.week + weekday, first + day)
                        self.assertEqual(day_by_sheet(calendar, year, month, week, weekday), numbers[day])

    def test_no_such_month(self):
        for calendar, month in ((COMMON, 12), (COMMON, -1), (NINE, 2)):
            for refused in (lambda: month_rows(calendar, 0, month), lambda: told_month(calendar, 0, month),
                            lambda: marks(calendar, always(), 0, month), lambda: day_by_sheet(calendar, 0, month, 0, 0)):
                with self.assertRaises(BadDay):
                    refused()

    def test_no_day_there(self):
        self.assertEqual(day_by_sheet(COMMON, 2026, 10, 0, 6), COMMON.number_of(2026, 10, 0))
        for week, weekday in ((0, 5), (5, 1), (6, 0), (-1, 0), (0, 7), (0, -1), (5, -7), (-6, 6)):
            with self.assertRaises(BadDay):
                day_by_sheet(COMMON, 2026, 10, week, weekday)


class TextsTest(unittest.TestCase):
    def test_known_texts(self):
        self.assertEqual(told_month(COMMON, 2026, 10, (19, 29)), NOVEMBER)
        self.assertEqual(told_month(COMMON, 2026, 10, [29, 19, 77]), NOVEMBER)
        self.assertEqual(told_month(COMMON, 2026, 10), tuple(row.replace("20*", "20 ").replace("30*", "30") for row in NOVEMBER))
        self.assertEqual(read_month(COMMON, NOVEMBER), (30, 6, (19, 29)))
        self.assertEqual(read_month(COMMON, list(told_month(COMMON, 2027, 1))), (28, 0, ()))

    def test_widths(self):
        # The greatest month has nine days, but a day more takes two signs; and so three where it has a hundred and twenty.
        self.assertEqual(told_month(NINE, 1, 0, (8,)), ("       1  2", " 3  4  5  6", " 7  8  9*"))
        self.assertEqual(told_month(Calendar((8,), 0, 3, (1,), 4, 1), 0, 0, (0, 3)), ("  1*2 3", "4*5 6 7", "8"))
        self.assertEqual(told_month(WIDE, 0, 1)[0], "                  1   2   3")
        self.assertEqual(told_month(Calendar((99,), 0, 1, (), 50), 0, 0)[1][:8], " 51  52 ")
        self.assertEqual(told_month(Calendar((98,), 0, 1, (), 50), 0, 0)[1][:6], "51 52 ")

    def test_told_and_read_again(self):
        draw = random.Random(28)
        for calendar in small_calendars() + [COMMON, WIDE, NINE]:
            for _ in range(60):
                year, month = draw.randrange(-30, 2100), draw.randrange(len(calendar.months))
                size = calendar.month_days(year, month)
                marked = tuple(sorted(draw.sample(range(size), draw.randrange(size + 1))))
                told = told_month(calendar, year, month, marked)
                first = calendar.weekday_of(calendar.number_of(year, month, 0))
                self.assertEqual(read_month(calendar, told), (size, first, marked))
                self.assertTrue(all(row == row.rstrip() for row in told))

    def test_begun_on_any_weekday(self):
        firsts = set()
        for month in range(12):
            days, first, _ = read_month(COMMON, told_month(COMMON, 2026, month))
            self.assertEqual(days, COMMON.month_days(2026, month))
            firsts.add(first)
        self.assertEqual(firsts, set(range(7)))

    def test_rows_refused(self):
        rows = list(NOVEMBER)
        self.assertEqual(len(rows[1]), 20)
        for bad in ([], (), [""], ["", ""], [" "], rows[1:], rows[:1] + rows[2:], rows[::-1], [""] + rows, rows[:2] + [""] + rows[2:],
                    [row + " " for row in rows], rows[:5] + ["30* "], rows[:5] + [" 30"], rows[:5] + ["31"], rows[:5] + ["30+"],
                    rows[:5] + ["30**"], rows[:5] + ["3"], rows[:5] + ["   30"], rows[:5] + ["30    1"], rows + ["31"],
                    [" 1"] + rows[1:], ["1"] + rows[1:], [NOVEMBER[0] + "*2"] + rows[1:], [NOVEMBER[0].lstrip()] + rows[1:],
                    [NOVEMBER[0][:-1]] + rows[1:], [NOVEMBER[0].replace("1", "0")] + rows[1:], [rows[0], rows[1] + "  9"] + rows[2:],
                    [rows[0], "2  3  4  5  6  7  8"] + rows[2:], [rows[0], rows[1].replace("5", "*")] + rows[2:],
                    [rows[0], rows[1].replace(" 5", "  ")] + rows[2:], [rows[0], rows[1].replace(" 5 ", "  *")] + rows[2:],
                    [rows[0], rows[1].replace(" 5", "05")] + rows[2:], [rows[0], rows[1].replace(" 5", "5 ")] + rows[2:],
                    [rows[0], rows[1].replace("5", "\u0665")] + rows[2:], rows + rows):
            with self.assertRaises(BadText, msg=bad):
                read_month(COMMON, bad)

    def test_any_row_cut_short(self):
        for place in range(5):
            for size in range(1, len(NOVEMBER[place])):
                rows = list(NOVEMBER)
                rows[place] = rows[place][:-size]
                with self.assertRaises(BadText, msg=rows[place]):
                    read_month(COMMON, rows)


class YearsTest(unittest.TestCase):
    def test_marks(self):
        self.assertEqual(marks(COMMON, Is("weekday", (4,)), 2026, 10), (5, 12, 19, 26))
        self.assertEqual((marks(COMMON, never(), 2026, 1), marks(COMMON, always(), 2026, 1)), ((), tuple(range(28))))
        draw = random.Random(3)
        for calendar in small_calendars():
            rule = some_rule(draw, calendar, 2)
            for month in range(len(calendar.months)):
                first, size = calendar.number_of(5, month, 0), calendar.month_days(5, month)
                wanted = [day for day in range(size) if rule.has(Day(calendar, first + day))]
                self.assertEqual(marks(calendar, rule, 5, month), tuple(wanted))

    def test_year_sheet(self):
        for calendar in small_calendars() + [COMMON]:
            for year in (-1, 0, 5):
                sheet = year_sheet(calendar, year, Is("day", (1, 3)))
                wanted = [told_month(calendar, year, month, [day for day in (1, 3) if day < calendar.month_days(year, month)])
                          for month in range(len(calendar.months))]
                self.assertEqual(sheet, tuple(wanted))

    def test_same_sheet(self):
        for calendar in small_calendars() + [COMMON]:
            sheets = {year: year_sheet(calendar, year, never()) for year in range(-6, 20)}
            for year in range(-6, 20):
                for other in range(-6, 20):
                    same = same_sheet(calendar, year, other)
                    if calendar.week > 1:
                        self.assertEqual(same, sheets[year] == sheets[other])
                later = next_same(calendar, year)
                self.assertTrue(later > year and same_sheet(calendar, year, later))
                self.assertFalse(any(same_sheet(calendar, year, other) for other in range(year + 1, later)))

    def test_known_years(self):
        self.assertEqual((next_same(COMMON, 2026), next_same(COMMON, 2024), next_same(COMMON, 1896)), (2037, 2052, 1908))
        self.assertTrue(same_sheet(COMMON, 2026, 2015))
        self.assertFalse(same_sheet(COMMON, 2026, 2032))
