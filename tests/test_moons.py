"""Promise 27: moons and their years."""

import random
import unittest
from fractions import Fraction
from math import floor

from recurwright.errors import BadCalendar, BadDay
from recurwright.moons import PART, Moons, is_even, lengths


def some_moons(draw):
    """Moons whose months and years are short, or as in the sky, of whole lengths or not."""
    if draw.random() < 0.3:
        return Moons((29530588, 1000000), (365242190, 1000000), draw.randrange(PART))
    by, year_by = draw.randrange(1, 9), draw.randrange(1, 9)
    days = draw.randrange(by, 9 * by)
    least = days * year_by // by + 1
    return Moons((days, by), (draw.randrange(least, least * 4 + 2), year_by), draw.choice([0, 1, PART - 1, draw.randrange(PART)]))


class Table:
    """Months and years told by going through them: their first days by fractions."""

    def __init__(self, moons, low, high):
        month, year = Fraction(*moons.month), Fraction(*moons.year)
        self.firsts = {moon: floor(moon * month + Fraction(moons.lead, PART)) for moon in range(low, high + 1)}
        self.first_moons = {}
        count = floor(self.firsts[low] / year) + 2
        while floor(count * year) <= self.firsts[high - 1]:
            start = floor(count * year)
            self.first_moons[count] = next(moon for moon in range(low, high + 1) if self.firsts[moon] >= start)
            count += 1

    def date(self, number):
        moon = max(moon for moon in self.firsts if self.firsts[moon] <= number)
        year = max(year for year in self.first_moons if self.first_moons[year] <= moon)
        return year, moon - self.first_moons[year], number - self.firsts[moon]


class MoonsTest(unittest.TestCase):
    def test_fields(self):
        moons = Moons([59, 2], (365, 1), 7)
        self.assertEqual((moons.month, moons.year, moons.lead), ((59, 2), (365, 1), 7))
        self.assertEqual((Moons((59, 2), (365, 1)).lead, PART), (0, 10000))

    def test_known_lengths(self):
        moons = Moons((59, 2), (1461, 4))
        self.assertEqual([moons.first_day(moon) for moon in range(-3, 4)], [-89, -59, -30, 0, 29, 59, 88])
        self.assertEqual([moons.days_in(moon) for moon in range(-2, 3)], [29, 30, 29, 30, 29])
        # The lead brings a beginning into the next day as soon as it comes to a whole one.
        self.assertEqual([Moons((59, 2), (365, 1), lead).first_day(1) for lead in (0, 4999, 5000, 9999)], [29, 29, 30, 30])
        self.assertEqual([Moons((59, 2), (365, 1), lead).first_day(0) for lead in (0, 9999)], [0, 0])
        self.assertEqual([moons.first_moon(year) for year in range(-1, 4)], [-12, 0, 13, 25, 38])
        self.assertEqual([moons.moons_in(year) for year in range(-1, 3)], [12, 13, 12, 13])

    def test_years_of_nineteen(self):
        # Nineteen years of two hundred and thirty-five months, seven of them with one more.
        moons = Moons((765433, 25920), (235 * 765433, 19 * 25920))
        many = [moons.moons_in(year) for year in range(19)]
        self.assertEqual((sum(many), many.count(13), many.count(12)), (235, 7, 12))
        self.assertEqual(moons.most_moons(0, 18), tuple(year for year in range(19) if many[year] == 13))
        self.assertEqual([moons.moons_in(year) for year in range(-19, 0)], many)

    def test_as_going_through_months(self):
        draw = random.Random(27)
        for _ in range(60):
            moons = some_moons(draw)
            table = Table(moons, -60, 60)
            for moon in range(-60, 60):
                self.assertEqual(moons.first_day(moon), table.firsts[moon])
                self.assertEqual(moons.days_in(moon), table.firsts[moon + 1] - table.firsts[moon])
                for number in {table.firsts[moon], table.firsts[moon + 1] - 1}:
                    self.assertEqual(moons.moon_of(number), moon)
            for year, first in table.first_moons.items():
                self.assertEqual(moons.first_moon(year), first)
                if year + 1 in table.first_moons:
                    self.assertEqual(moons.moons_in(year), table.first_moons[year + 1] - first)
            lows = list(table.first_moons)
            for moon in range(table.first_moons[lows[0]], table.first_moons[lows[-1]]):
                self.assertEqual(moons.year_of(moon), max(year for year in lows if table.first_moons[year] <= moon))
            self.same_dates(moons, table, lows)

    def same_dates(self, moons, table, lows):
        first, last = table.firsts[table.first_moons[lows[0]]], table.firsts[table.first_moons[lows[-1]]]
        for number in range(first, last, max(1, (last - first) // 50)):
            date = table.date(number)
            self.assertEqual(moons.date(number), date)
            self.assertEqual(moons.number_of(*date), number)
            year, month, day = date
            many = moons.moons_in(year)
            size = moons.days_in(moons.first_moon(year) + month)
            for bad in ((year, -1, 0), (year, many, 0), (year, month, -1), (year, month, size), (year, many + 5, day)):
                with self.assertRaises(BadDay):
                    moons.number_of(*bad)

    def test_a_year_without_months(self):
        moons = Moons((48, 5), (99, 10))
        bare = [year for year in range(200) if moons.moons_in(year) == 0]
        self.assertNotEqual(bare, [])
        for year in bare:
            with self.assertRaises(BadDay):
                moons.number_of(year, 0, 0)
            self.assertGreater(moons.year_of(moons.first_moon(year)), year)

    def test_months_of_a_day(self):
        moons = Moons((1, 1), (7, 1))
        self.assertEqual([moons.date(number) for number in (-8, -1, 0, 6, 7)], [(-2, 6, 0), (-1, 6, 0), (0, 0, 0), (0, 6, 0), (1, 0, 0)])
        moons = Moons((8, 7), (7, 2))
        self.assertEqual([moons.days_in(moon) for moon in range(7)], [1, 1, 1, 1, 1, 1, 2])

    def test_far_dates(self):
        moons = Moons((29530588853, 10 ** 9), (365242189, 10 ** 6), 1234)
        for number in (10 ** 12, -10 ** 12, 10 ** 15 + 7):
            self.assertEqual(moons.number_of(*moons.date(number)), number)

    def test_refused(self):
        for month, year, lead in (((0, 1), (9, 1), 0), ((5, 0), (9, 1), 0), ((5, 1), (0, 1), 0), ((5, 1), (9, 0), 0), ((-5, 1), (9, 1), 0),
                                  ((-5, -1), (9, 1), 0), ((5, 1), (9, 1), -1), ((5, 1), (9, 1), PART), ((5, 1), (5, 1), 0),
                                  ((5, 2), (10, 4), 0), ((6, 1), (5, 1), 0), ((3, 4), (9, 1), 0), ((99, 100), (365, 1), 0)):
            with self.assertRaises(BadCalendar):
                Moons(month, year, lead)
        Moons((5, 5), (6, 5), PART - 1)


class LengthsTest(unittest.TestCase):
    def test_lengths(self):
        moons = Moons((59, 2), (365, 1))
        self.assertEqual(lengths(moons, 0, 5), {29: 3, 30: 2})
        self.assertEqual((lengths(moons, -1, 0), lengths(moons, 3, 3), lengths(moons, 3, 2)), ({30: 1}, {}, {}))
        draw = random.Random(4)
        for _ in range(20):
            moons = some_moons(draw)
            table = lengths(moons, -20, 30)
            self.assertEqual(sum(table.values()), 50)
            for days, many in table.items():
                self.assertEqual(many, [moons.days_in(moon) for moon in range(-20, 30)].count(days))

    def test_most_moons(self):
        draw = random.Random(5)
        for _ in range(20):
            moons = some_moons(draw)
            many = {year: moons.moons_in(year) for year in range(-9, 12)}
            wanted = tuple(year for year in many if many[year] == max(many.values()))
            self.assertEqual(moons.most_moons(-9, 11), wanted)
        self.assertEqual((moons.most_moons(3, 3), moons.most_moons(3, 2)), ((3,), ()))

    def test_is_even_as_going_through(self):
        draw = random.Random(6)
        for _ in range(40):
            moons = some_moons(draw)
            for many in (1, 2, 3, 7, 12, 40):
                first = draw.randrange(-50, 50)
                months = range(first, first + 100)
                sizes = {moons.days_in(moon) for moon in months}
                in_all = {moons.first_day(moon + many) - moons.first_day(moon) for moon in months}
                self.assertEqual(is_even(moons, first, many), len(sizes) <= 2 and len(in_all) <= 2)
        self.assertIs(is_even(Moons((30, 1), (365, 1)), 0, 12), True)
