"""Promise 16: years and parts of business, weeks by a pattern, even months, shares of years, due days, spread amounts."""

import random
import unittest

from recurwright.calendars import Calendar, common
from recurwright.days import Day, months_on
from recurwright.errors import BadSize
from recurwright.spells import Spell, row_of
from recurwright.terms import (
    business_year, due_days, even_months, part_of_business, share_of_years, spread, start_of_part, weeks_pattern,
)
from tests.support import Table, all_calendars, small_calendars

COMMON = common()


def at(year, month, day):
    return COMMON.number_of(year, month, day)


class BusinessTest(unittest.TestCase):
    def test_known_years(self):
        self.assertEqual(business_year(COMMON, at(2026, 2, 30), 3), 2025)
        self.assertEqual(business_year(COMMON, at(2026, 3, 0), 3), 2026)
        self.assertEqual(business_year(COMMON, at(2026, 0, 0), 0), 2026)
        self.assertEqual(business_year(COMMON, at(0, 0, 0), 11), -1)
        self.assertEqual(part_of_business(COMMON, at(2026, 2, 30), 3, 3), (2025, 3))
        self.assertEqual(part_of_business(COMMON, at(2026, 3, 0), 3, 3), (2026, 0))
        self.assertEqual(part_of_business(COMMON, at(2026, 10, 19), 9, 6), (2026, 0))
        self.assertEqual(start_of_part(COMMON, 2025, 3, 3, 3), at(2026, 0, 0))
        self.assertEqual(start_of_part(COMMON, 2025, 3, 0, 12), at(2025, 3, 0))
        self.assertEqual(start_of_part(COMMON, 2023, 11, 2, 1), at(2024, 1, 0))

    def test_as_counting_on(self):
        for calendar in small_calendars() + [Calendar((4, 1, 5, 2, 6, 3), 5, 3, (1,), 4)]:
            many_months = len(calendar.months)
            table = Table(calendar, -90, 90)
            for first_month in range(many_months):
                for many in [size for size in range(1, many_months + 1) if many_months % size == 0]:
                    for number in range(-60, 60):
                        year, part = part_of_business(calendar, number, first_month, many)
                        start = start_of_part(calendar, year, first_month, part, many)
                        row = table.rows[start]
                        self.assertEqual((row[2], (row[1] - first_month) % many), (0, 0))
                        parts = many_months // many
                        behind = start_of_part(calendar, year + (part + 1) // parts, first_month, (part + 1) % parts, many)
                        self.assertTrue(start <= number < behind)
                        self.assertEqual(business_year(calendar, number, first_month), year)
                        self.assertTrue(start_of_part(calendar, year, first_month, 0, many) <= number)
                        self.assertEqual(calendar.date(start_of_part(calendar, year, first_month, 0, many))[0], year)

    def test_refused(self):
        for month in (-1, 12, 99):
            for refused in (lambda: business_year(COMMON, 0, month), lambda: part_of_business(COMMON, 0, month, 3),
                            lambda: start_of_part(COMMON, 0, month, 0, 3)):
                with self.assertRaises(BadSize):
                    refused()
        for many in (0, -1, -3, 5, 7, 24):
            for refused in (lambda: part_of_business(COMMON, 0, 0, many), lambda: start_of_part(COMMON, 0, 0, 0, many)):
                with self.assertRaises(BadSize):
                    refused()
        for part, many in ((4, 3), (-1, 3), (1, 12), (12, 1)):
            with self.assertRaises(BadSize):
                start_of_part(COMMON, 0, 0, part, many)


class PatternTest(unittest.TestCase):
    def test_known_weeks(self):
        start = 10
        told = [weeks_pattern(COMMON, start, (4, 4, 5), start + 7 * week) for week in (0, 3, 4, 7, 8, 12, 13, 26)]
        self.assertEqual(told, [(0, 0), (0, 3), (1, 0), (1, 3), (2, 0), (2, 4), (3, 0), (6, 0)])
        self.assertEqual(weeks_pattern(COMMON, start, (4, 4, 5), start + 6), (0, 0))

    def test_days_ahead_of_the_start(self):
        self.assertEqual(weeks_pattern(COMMON, 10, (4, 4, 5), 9), (-1, 4))
        self.assertEqual(weeks_pattern(COMMON, 10, [4, 4, 5], 10 - 7 * 5), (-1, 0))
        self.assertEqual(weeks_pattern(COMMON, 10, (4, 4, 5), 9 - 7 * 5), (-2, 3))
        self.assertEqual(weeks_pattern(COMMON, 10, (4, 4, 5), 10 - 7 * 13 - 1), (-4, 4))

    def test_as_going_week_by_week(self):
        for calendar in small_calendars():
            for pattern in ((1,), (2, 1), (1, 3, 2, 1)):
                for start in (-7, 0, 12):
                    weeks = [(part, week) for part in range(-200, 200) for week in range(pattern[part % len(pattern)])]
                    base = weeks.index((0, 0))
                    for number in range(-80, 80):
                        place = base + (number - start) // calendar.week
                        self.assertEqual(weeks_pattern(calendar, start, pattern, number), weeks[place])

    def test_refused(self):
        for pattern in ((), [], (0,), (4, 0, 5), (4, -1)):
            with self.assertRaises(BadSize):
                weeks_pattern(COMMON, 0, pattern, 5)


class DaysBetweenTest(unittest.TestCase):
    def test_even_months_known(self):
        self.assertEqual(even_months(COMMON, at(2026, 0, 0), at(2027, 0, 0), 30), 360)
        self.assertEqual(even_months(COMMON, at(2026, 0, 30), at(2026, 1, 27), 30), 28)
        self.assertEqual(even_months(COMMON, at(2026, 0, 29), at(2026, 0, 30), 30), 0)
        self.assertEqual(even_months(COMMON, at(2026, 1, 27), at(2026, 2, 0), 30), 3)
        self.assertEqual(even_months(COMMON, at(2026, 4, 10), at(2026, 4, 10), 30), 0)
        self.assertEqual(even_months(COMMON, at(2026, 0, 0), at(2026, 0, 30), 1), 0)
        self.assertEqual(even_months(COMMON, at(2026, 0, 0), at(2026, 1, 0), 1), 1)

    def test_even_months_of_unlike_lengths(self):
        for calendar in small_calendars():
            table = Table(calendar, -60, 60)
            for size in (1, 3, 4, 8, 40):
                places = {}
                for number in range(-60, 60):
                    year, month, day = table.rows[number][:3]
                    places[number] = (year * len(calendar.months) + month) * size + (day if day < size else size - 1)
                for first in range(-60, 60, 3):
                    for last in range(first, 60, 5):
                        self.assertEqual(even_months(calendar, first, last, size), places[last] - places[first])

    def test_share_of_years(self):
        self.assertEqual(share_of_years(COMMON, at(2023, 11, 30), at(2025, 0, 1)), ((1, 365), (366, 366), (1, 365)))
        self.assertEqual(share_of_years(COMMON, at(2024, 0, 0), at(2025, 0, 0)), ((366, 366),))
        self.assertEqual(share_of_years(COMMON, 5, 5), ())
        for calendar in all_calendars():
            for first in range(-40, 40, 7):
                for last in range(first, first + 60, 9):
                    years = [calendar.date(number)[0] for number in range(first, last)]
                    wanted = tuple((years.count(year), calendar.year_days(year)) for year in sorted(set(years)))
                    self.assertEqual(share_of_years(calendar, first, last), wanted)

    def test_refused(self):
        for first, last, size in ((1, 0, 30), (0, 5, 0), (0, 5, -1), (5, 4, 0)):
            with self.assertRaises(BadSize):
                even_months(COMMON, first, last, size)
        with self.assertRaises(BadSize):
            share_of_years(COMMON, 1, 0)


class DueTest(unittest.TestCase):
    def test_due_days(self):
        days = due_days(COMMON, at(2026, 0, 30), 1, 4)
        self.assertEqual(days, (at(2026, 0, 30), at(2026, 1, 27), at(2026, 2, 30), at(2026, 3, 29)))
        self.assertEqual(due_days(COMMON, at(2024, 1, 28), 12, 5)[3:], (at(2027, 1, 27), at(2028, 1, 28)))
        back = (at(2026, 4, 30), at(2026, 3, 29), at(2026, 2, 30), at(2026, 1, 27))
        self.assertEqual(due_days(COMMON, at(2026, 4, 30), -1, 4), back)
        self.assertEqual((due_days(COMMON, 7, 1, 0), due_days(COMMON, 7, 0, 2)), ((), (7, 7)))

    def test_months_and_terms_together(self):
        draw = random.Random(16)
        for calendar in all_calendars():
            for _ in range(20):
                first, months = draw.randrange(-300, 300), draw.randrange(6)
                days = due_days(calendar, first, months, 6)
                row = row_of(calendar, first * 86400 + 77, Spell(months), 6)
                self.assertEqual(tuple(day * 86400 + 77 for day in days), row)
                self.assertEqual(days, tuple(months_on(Day(calendar, first), months * k).number for k in range(6)))
                year, month, day = calendar.date(first)
                if day == 0:
                    self.assertEqual(even_months(calendar, first, days[5], 30), months * 5 * 30)
                if months == 1:
                    self.assertEqual(start_of_part(calendar, year, month, 0, 1), first - day)
                    late = calendar.date(days[-1])
                    self.assertEqual(business_year(calendar, days[-1], month), late[0] if late[1] >= month else late[0] - 1)

    def test_spread(self):
        self.assertEqual([spread(10, 3), spread(9, 3), spread(2, 5)], [(4, 3, 3), (3, 3, 3), (1, 1, 0, 0, 0)])
        self.assertEqual([spread(-10, 3), spread(-1, 2), spread(0, 2)], [(-3, -3, -4), (0, -1), (0, 0)])
        self.assertEqual(spread(10 ** 20 + 1, 2), (5 * 10 ** 19 + 1, 5 * 10 ** 19))
        for amount in range(-30, 30):
            for many in range(1, 9):
                parts = spread(amount, many)
                self.assertEqual((len(parts), sum(parts)), (many, amount))
                self.assertEqual(list(parts), sorted(parts, reverse=True))
                self.assertLessEqual(parts[0] - parts[-1], 1)
        for many in (0, -1):
            with self.assertRaises(BadSize):
                spread(5, many)
