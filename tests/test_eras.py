"""Promise 22: two calendars, and reigns."""

import random
import unittest

from recurwright.calendars import Calendar, common
from recurwright.eras import Pair, Reigns
from recurwright.errors import BadDay, BadSize, NoDay, NoSuch
from tests.support import Table, small_calendars

COMMON = common()
JULIAN = Calendar((31, 28, 31, 30, 31, 30, 31, 31, 30, 31, 30, 31), 1, 4, (0,), 7, 3)


class PairTest(unittest.TestCase):
    def test_known_dates(self):
        # The older calendar's year nought began two days ahead of the common one's.
        pair = Pair(COMMON, JULIAN, 2)
        self.assertEqual((pair.one.shown(), pair.other.shown(), pair.offset), (COMMON.shown(), JULIAN.shown(), 2))
        self.assertEqual(pair.across(1582, 9, 14), (1582, 9, 4))
        self.assertEqual(pair.back(1582, 9, 3), (1582, 9, 13))
        self.assertEqual(pair.across(1917, 10, 6), (1917, 9, 24))
        self.assertEqual(pair.back(1900, 1, 28), (1900, 2, 12))
        self.assertEqual(pair.across(0, 0, 0), (0, 0, 2))

    def test_across_and_back_as_counting_on(self):
        draw = random.Random(3)
        for one in small_calendars():
            for other in small_calendars():
                here, there = Table(one, -60, 60), Table(other, -80, 80)
                offset = draw.randrange(-15, 15)
                pair = Pair(one, other, offset)
                for number in range(-60, 60):
                    self.assertEqual(pair.across(*here.rows[number][:3]), there.rows[number + offset][:3])
                    self.assertEqual(pair.back(*there.rows[number + offset][:3]), here.rows[number][:3])

    def test_dates_refused(self):
        pair = Pair(COMMON, Calendar((5, 9), 1, 2, (0,), 3), 2)
        for date in ((2026, 1, 28), (2026, 12, 0), (2026, -1, 0), (2026, 0, 31), (2026, 0, -1)):
            with self.assertRaises(BadDay):
                pair.across(*date)
        for date in ((1, 1, 9), (0, 1, 10), (0, 2, 0), (0, 0, 5), (0, 0, -1)):
            with self.assertRaises(BadDay):
                pair.back(*date)

    def test_both_begin(self):
        pair = Pair(COMMON, JULIAN, 2)
        # In the third century both calendars are alike for a hundred years.
        self.assertEqual(COMMON.date(pair.both_begin(0, "month", 5000)), (200, 2, 0))
        self.assertEqual(COMMON.date(pair.both_begin(0, "year", 5000)), (201, 0, 0))
        first = COMMON.number_of(200, 2, 0)
        self.assertEqual(pair.both_begin(first, "month", 1), first)
        self.assertEqual(pair.both_begin(first + 1, "month", 2), first + 31)
        last = COMMON.number_of(300, 1, 0)
        self.assertEqual(pair.both_begin(last, "month", 1), last)
        with self.assertRaises(NoDay):
            pair.both_begin(last + 1, "month", 1200)

    def test_beyond_the_months(self):
        pair = Pair(COMMON, JULIAN, 2)
        start = COMMON.number_of(199, 11, 0)
        for most in (-1, 0, 1, 3):
            with self.assertRaises(NoDay):
                pair.both_begin(start, "month", most)
        self.assertEqual(COMMON.date(pair.both_begin(start, "month", 4)), (200, 2, 0))
        # The month that the day is in is one of them, though it began ahead of the day.
        self.assertEqual(COMMON.date(pair.both_begin(start + 1, "month", 4)), (200, 2, 0))

    def test_both_begin_as_going_through_days(self):
        draw = random.Random(8)
        for one in small_calendars():
            for other in small_calendars():
                here, there = Table(one, -300, 300), Table(other, -330, 330)
                offset = draw.randrange(-15, 15)
                pair = Pair(one, other, offset)
                for unit in ("year", "month"):
                    zeros = (0,) if unit == "month" else (0, 0)
                    both = [day for day in range(-300, 300) if here.rows[day][3 - len(zeros):3] == zeros
                            and there.rows[day + offset][3 - len(zeros):3] == zeros]
                    for number in draw.sample(range(-60, 60), 12):
                        most = draw.randrange(1, 20)
                        months = here.unit(number, "months") + most
                        good = [day for day in both if day >= number and here.unit(day, "months") < months]
                        if good != []:
                            self.assertEqual(pair.both_begin(number, unit, most), good[0])
                        else:
                            with self.assertRaises(NoDay):
                                pair.both_begin(number, unit, most)

    def test_no_such_unit(self):
        for unit in ("", "week", "day", "years", "Month"):
            with self.assertRaises(NoSuch):
                Pair(COMMON, COMMON, 0).both_begin(0, unit, 1)


def day(year, month, date):
    return COMMON.number_of(year, month, date)


ROWS = [("early", day(1868, 9, 22)), ["late", day(1912, 6, 29)], ("peace", day(1926, 11, 24)), ("late", day(1989, 0, 7)),
        ("last", day(1989, 5, 0))]


class ReignsTest(unittest.TestCase):
    def setUp(self):
        self.reigns = Reigns(ROWS)

    def test_fields(self):
        self.assertEqual(self.reigns.rows, tuple(tuple(row) for row in ROWS))

    def test_refused(self):
        for rows in ((), [], [("a", 5), ("b", 5)], [("a", 5), ("b", 4)], [("a", 1), ("b", 9), ("c", 8)]):
            with self.assertRaises(BadSize):
                Reigns(rows)
        Reigns([("a", -5), ("a", -4)])

    def test_reign(self):
        firsts = [row[1] for row in ROWS]
        for place, first in enumerate(firsts):
            self.assertEqual((self.reigns.reign(first), self.reigns.reign(first + 1)), (place, place))
            if place > 0:
                self.assertEqual(self.reigns.reign(first - 1), place - 1)
        self.assertEqual(self.reigns.reign(10 ** 9), 4)
        for number in (firsts[0] - 1, 0, -5):
            with self.assertRaises(NoSuch):
                self.reigns.reign(number)
            with self.assertRaises(NoSuch):
                self.reigns.told(COMMON, number)

    def test_begun_within_a_year(self):
        told = lambda year, month, date: self.reigns.told(COMMON, day(year, month, date))
        self.assertEqual(told(1926, 11, 23), ("late", 15, 11, 23))
        self.assertEqual(told(1926, 11, 24), ("peace", 1, 11, 24))
        self.assertEqual(told(1927, 0, 0), ("peace", 2, 0, 0))
        self.assertEqual(told(1989, 0, 6), ("peace", 64, 0, 6))
        self.assertEqual(told(1989, 4, 30), ("late", 1, 4, 30))
        self.assertEqual(told(2026, 10, 19), ("last", 38, 10, 19))

    def test_told_and_counted_back(self):
        for number in range(ROWS[0][1], ROWS[0][1] + 60000, 37):
            name, year, month, date = self.reigns.told(COMMON, number)
            self.assertEqual(self.reigns.day_number(COMMON, name, year, month, date), number)

    def test_dates_of_reigns(self):
        number = self.reigns.day_number
        self.assertEqual(number(COMMON, "peace", 1, 11, 24), day(1926, 11, 24))
        self.assertEqual(number(COMMON, "peace", 64, 0, 6), day(1989, 0, 6))
        # By name these dates are of the later reign only, as the earlier one hasn't them.
        self.assertEqual(number(COMMON, "late", 1, 0, 7), day(1989, 0, 7))
        self.assertEqual(number(COMMON, "late", 1, 6, 29), day(1912, 6, 29))
        for name, year, month, date in (
                ("peace", 1, 11, 23), ("peace", 64, 0, 7), ("peace", 0, 11, 24), ("nobody", 1, 0, 0), ("nobody", 1, 77, 0),
                ("peace", 3, 1, 29), ("peace", 2, 1, 28), ("peace", 2, 0, 31), ("peace", 2, 0, -1), ("late", 1, 5, 5),
                ("early", 0, 9, 22), ("early", 1, 9, 21), ("late", 15, 11, 24), ("last", 1, 4, 30), ("late", -3, 0, 0)):
            with self.assertRaises(NoSuch, msg=(name, year, month, date)):
                number(COMMON, name, year, month, date)
        for month in (-1, 12, 99):
            with self.assertRaises(BadDay):
                number(COMMON, "peace", 2, month, 0)

    def test_a_date_that_comes_twice_by_name(self):
        calendar = Calendar((5, 6), 0, 2, (1,), 3)
        reigns = Reigns([("a", 2), ("b", 25), ("a", 60), ("a", 90)])
        twice = {}
        for number in range(2, 150):
            name, year, month, date = reigns.told(calendar, number)
            twice.setdefault((name, year, month, date), []).append(number)
        self.assertIn(2, [len(numbers) for numbers in twice.values()])
        for (name, year, month, date), numbers in twice.items():
            self.assertEqual(reigns.day_number(calendar, name, year, month, date), numbers[0])
        for year in range(-1, 9):
            for month in range(2):
                for date in range(-1, 8):
                    if ("a", year, month, date) not in twice and reigns.told(calendar, 149)[1] > year:
                        with self.assertRaises(NoSuch):
                            reigns.day_number(calendar, "a", year, month, date)

    def test_years_of(self):
        self.assertEqual([self.reigns.years_of(COMMON, place) for place in range(4)], [45, 15, 64, 1])
        for place in (-1, 4, 5, 99):
            with self.assertRaises(NoSuch):
                self.reigns.years_of(COMMON, place)
        with self.assertRaises(NoSuch):
            Reigns([("a", 0)]).years_of(COMMON, 0)
        # A reign that ends with a year is not in the next one.
        self.assertEqual(Reigns([("a", day(5, 11, 30)), ("b", day(7, 0, 0))]).years_of(COMMON, 0), 2)

    def test_as_going_through_days(self):
        draw = random.Random(6)
        for calendar in small_calendars():
            table = Table(calendar, -100, 200)
            firsts = sorted(draw.sample(range(-90, 150), 6))
            reigns = Reigns([(draw.choice("ab"), first) for first in firsts])
            for place in range(5):
                days = range(firsts[place], firsts[place + 1])
                years = sorted({table.rows[number][0] for number in days})
                self.assertEqual(reigns.years_of(calendar, place), len(years))
                for number in days:
                    year, month, date = table.rows[number][:3]
                    wanted = (reigns.rows[place][0], years.index(year) + 1, month, date)
                    self.assertEqual(reigns.told(calendar, number), wanted)
