"""Promise 8: worked days, each way of moving; and of promise 26, works' rule."""

import unittest

from recurwright.calendars import common
from recurwright.counts import Counter
from recurwright.days import Day
from recurwright.errors import BadDay, BadRule, BadSize, NoDay
from recurwright.rules import All, Every, Is, Moved, Not, always, never
from recurwright.workdays import WAYS, Works, doubled, paid
from tests.support import small_calendars

COMMON = common()
WEEK = Is("weekday", (0, 1, 2, 3, 4))
NEW_YEAR = Is("year day", (0,))


def at(year, month, day):
    return COMMON.number_of(year, month, day)


def all_works():
    works = [Works(COMMON, WEEK, NEW_YEAR), Works(COMMON, Every("days", 9, 3), Is("month", (5, 6)))]
    for calendar in small_calendars():
        works.append(Works(calendar, Every("days", 3, 1), Every("months", 2, 0)))
    return works


class WorksTest(unittest.TestCase):
    def setUp(self):
        self.works = Works(COMMON, WEEK, NEW_YEAR)

    def test_is_worked_and_fields(self):
        self.assertEqual([self.works.is_worked(at(2026, 11, day)) for day in (24, 25, 26)], [True, False, False])
        self.assertFalse(self.works.is_worked(at(2027, 0, 0)))
        self.assertTrue(self.works.rule.has(Day(COMMON, at(2027, 0, 3))))
        self.assertFalse(self.works.rule.has(Day(COMMON, at(2027, 0, 0))))
        self.assertIs(self.works.calendar, COMMON)
        self.assertEqual(self.works.counter.period, 400)

    def test_add_as_going_through(self):
        for works in all_works():
            worked = [number for number in range(-900, 900) if works.is_worked(number)]
            for number in range(-30, 30):
                on = [day for day in worked if day >= number]
                back = [day for day in worked if day < number]
                self.assertEqual(works.add(number, 0), on[0])
                for many in range(1, 6):
                    place = many if number in worked else many - 1
                    self.assertEqual(works.add(number, many), on[place])
                    self.assertEqual(works.add(number, -many), back[-many])
                self.assertEqual(works.between(number, number + 25), len([d for d in on if d < number + 25]))

    def test_add_from_a_day_that_is_not_worked(self):
        saturday = at(2026, 10, 20)
        self.assertEqual([self.works.add(saturday, many) - saturday for many in (-1, 0, 1, 2)], [-1, 2, 2, 3])
        self.assertEqual(self.works.add(at(2026, 11, 30), 1), at(2027, 0, 3))

    def test_ways_as_going_through(self):
        self.assertEqual(WAYS, ("behind", "ahead", "nearest", "within month"))
        for works in all_works():
            calendar = works.calendar
            worked = [number for number in range(-900, 900) if works.is_worked(number)]
            for number in range(-60, 60):
                behind = min(day for day in worked if day >= number)
                ahead = max(day for day in worked if day <= number)
                nearest = behind if behind - number <= number - ahead else ahead
                same = calendar.date(behind)[:2] == calendar.date(number)[:2]
                told = [works.to_worked(number, way) for way in WAYS]
                self.assertEqual(told, [behind, ahead, nearest, behind if same else ahead])

    def test_ways_at_months_ends(self):
        saturday, sunday = at(2026, 9, 30), at(2026, 10, 0)
        self.assertEqual(self.works.to_worked(saturday, "within month"), at(2026, 9, 29))
        self.assertEqual(self.works.to_worked(sunday, "within month"), at(2026, 10, 1))
        self.assertEqual(self.works.to_worked(saturday, "nearest"), at(2026, 9, 29))
        self.assertEqual(self.works.to_worked(sunday, "nearest"), at(2026, 10, 1))
        lone = Works(COMMON, Is("weekday", (0, 4)), never())
        self.assertEqual(lone.to_worked(at(2026, 10, 17), "nearest"), at(2026, 10, 19))
        between = Works(COMMON, Is("weekday", (0, 2)), never())
        self.assertEqual(between.to_worked(at(2026, 10, 16), "nearest"), at(2026, 10, 17))

    def test_months(self):
        self.assertEqual(self.works.last_of_month(2026, 9), at(2026, 9, 29))
        self.assertEqual(self.works.nth_of_month(2027, 0, 0), at(2027, 0, 3))
        self.assertEqual(self.works.nth_of_month(2027, 0, 19), at(2027, 0, 28))
        self.assertIsNone(self.works.nth_of_month(2027, 0, 20))
        self.assertIsNone(self.works.nth_of_month(2027, 0, -1))
        summer = Works(COMMON, Is("month", (6,)), never())
        self.assertIsNone(summer.last_of_month(-1, 7))
        self.assertIsNone(summer.nth_of_month(-1, 5, 0))
        self.assertEqual(summer.last_of_month(-1, 6), at(-1, 6, 30))
        for works in all_works():
            calendar = works.calendar
            for month in range(len(calendar.months)):
                first = calendar.number_of(3, month, 0)
                days = [day for day in range(first, first + calendar.month_days(3, month)) if works.is_worked(day)]
                self.assertEqual(works.last_of_month(3, month), days[-1] if days else None)
                told = [works.nth_of_month(3, month, nth) for nth in range(len(days) + 1)]
                self.assertEqual(told, days + [None])
        for month in (-1, 12):
            for refused in (lambda: self.works.last_of_month(2026, month), lambda: self.works.nth_of_month(0, month, 0)):
                with self.assertRaises(BadDay):
                    refused()

    def test_paid_and_doubled(self):
        ends = Counter(COMMON, Is("day", (0, 1)))
        days = paid(self.works, ends, at(2026, 10, 0), at(2027, 0, 2), "behind")
        wanted = (at(2026, 10, 1), at(2026, 10, 1), at(2026, 11, 0), at(2026, 11, 1), at(2027, 0, 3), at(2027, 0, 3))
        self.assertEqual(days, wanted)
        self.assertEqual(doubled(days), (wanted[0], wanted[4]))
        self.assertEqual(doubled([5, 3, 5, 4, 3, 5]), (3, 5))
        self.assertEqual(doubled(()), ())
        for works in all_works():
            counter = Counter(works.calendar, always())
            for way in WAYS:
                row = paid(works, counter, -40, 40, way)
                self.assertEqual(row, tuple(works.to_worked(number, way) for number in range(-40, 40)))
                self.assertEqual(row, tuple(sorted(row)))

    def test_refused(self):
        for worked, off in ((never(), never()), (WEEK, always()), (WEEK, WEEK), (NEW_YEAR, Not(Is("day", (1,))))):
            with self.assertRaises(NoDay):
                Works(COMMON, worked, off)
        with self.assertRaises(BadRule):
            Works(COMMON, WEEK, Moved(Every("days", 17, 0), 1))
        for number in (at(2026, 10, 18), at(2026, 10, 20)):
            for way in ("", "after", "month"):
                with self.assertRaises(BadRule):
                    self.works.to_worked(number, way)
        with self.assertRaises(BadRule):
            paid(self.works, Counter(COMMON, All(())), 0, 5, "back")
        with self.assertRaises(BadSize):
            self.works.between(1, 0)
