"""Promise 11: spells added, told and read."""

import random
import unittest

from recurwright.calendars import Calendar, common
from recurwright.clocks import DAY
from recurwright.errors import BadText, BadTime
from recurwright.spells import Spell, most_between, on, plus, read_spell, row_of, times, told_spell
from tests.support import all_calendars

COMMON = common()


def at(year, month, day, time=0):
    return COMMON.number_of(year, month, day) * DAY + time


def on_by_going(calendar, local, spell):
    """A local time a spell on, told by going month by month and holding the day once, in the last month."""
    number, time = local // DAY, local - local // DAY * DAY
    year, month, day = calendar.date(number)
    for _ in range(spell.months):
        month += 1
        if month == len(calendar.months):
            year, month = year + 1, 0
    while day >= calendar.month_days(year, month):
        day -= 1
    number = calendar.number_of(year, month, day)
    for _ in range(spell.days):
        number += 1
    return number * DAY + time + spell.seconds


class SpellTest(unittest.TestCase):
    def test_made_and_shown(self):
        spell = Spell(14, 3, 61)
        self.assertEqual((spell.months, spell.days, spell.seconds), (14, 3, 61))
        self.assertEqual(spell.shown(), (14, 3, 61))
        self.assertEqual([Spell().shown(), Spell(2).shown(), Spell(0, 5).shown()], [(0, 0, 0), (2, 0, 0), (0, 5, 0)])
        self.assertEqual(Spell(seconds=4, days=2).shown(), (0, 2, 4))
        bare = [Spell().is_bare(), Spell(1).is_bare(), Spell(0, 1).is_bare(), Spell(0, 0, 1).is_bare()]
        self.assertEqual(bare, [True, False, False, False])

    def test_refused(self):
        for parts in ((-1,), (0, -1), (0, 0, -1), (5, 5, -1), (-1, -1, -1)):
            with self.assertRaises(BadTime):
                Spell(*parts)

    def test_plus_and_times(self):
        one, other = Spell(11, 20, 86000), Spell(3, 15, 900)
        self.assertEqual(plus(one, other).shown(), (14, 35, 86900))
        self.assertEqual((one.shown(), other.shown()), ((11, 20, 86000), (3, 15, 900)))
        self.assertEqual([times(one, many).shown() for many in (0, 1, 3)],
                         [(0, 0, 0), (11, 20, 86000), (33, 60, 258000)])
        with self.assertRaises(BadTime):
            times(one, -1)
        self.assertTrue(times(Spell(), 7).is_bare())


class OnTest(unittest.TestCase):
    def test_known_times(self):
        self.assertEqual(on(COMMON, at(2026, 0, 30, 3661), Spell(1)), at(2026, 1, 27, 3661))
        self.assertEqual(on(COMMON, at(2024, 0, 30), Spell(1, 1)), at(2024, 2, 0))
        self.assertEqual(on(COMMON, at(2026, 0, 30), Spell(13, 0, 5)), at(2027, 1, 27, 5))
        # Months first: a day on is counted from the month's held last day.
        self.assertEqual(on(COMMON, at(2026, 0, 29), Spell(1, 1)), at(2026, 2, 0))
        self.assertEqual(on(COMMON, at(2026, 11, 30, DAY - 1), Spell(0, 0, 1)), at(2027, 0, 0))
        # Days ahead of seconds, months ahead of both: what the seconds carry over meets no month's end.
        self.assertEqual(on(COMMON, at(2026, 0, 30, DAY - 1), Spell(1, 0, 1)), at(2026, 2, 0))
        self.assertEqual(on(COMMON, at(0, 0, 0) - 1, Spell(2)), at(0, 1, 28, DAY - 1))
        self.assertEqual(on(COMMON, at(2026, 5, 5, 9), Spell()), at(2026, 5, 5, 9))

    def test_as_going_through(self):
        draw = random.Random(3)
        for calendar in all_calendars():
            for _ in range(60):
                local = draw.randrange(-90 * DAY, 90 * DAY)
                spell = Spell(draw.randrange(20), draw.randrange(40), draw.randrange(3 * DAY))
                self.assertEqual(on(calendar, local, spell), on_by_going(calendar, local, spell))

    def test_rows_count_from_the_first(self):
        row = row_of(COMMON, at(2026, 0, 30, 60), Spell(1), 5)
        self.assertEqual(row, (at(2026, 0, 30, 60), at(2026, 1, 27, 60), at(2026, 2, 30, 60),
                               at(2026, 3, 29, 60), at(2026, 4, 30, 60)))
        self.assertEqual(row_of(COMMON, 5, Spell(1, 2, 3), 0), ())
        self.assertEqual(row_of(COMMON, 5, Spell(1, 2, 3), 1), (5,))
        self.assertEqual(row_of(COMMON, 5, Spell(), 3), (5, 5, 5))
        draw = random.Random(4)
        for calendar in all_calendars():
            local, spell = draw.randrange(-9 * DAY, 9 * DAY), Spell(draw.randrange(3), draw.randrange(9), 50000)
            wanted = tuple(on_by_going(calendar, local, Spell(spell.months * k, spell.days * k, spell.seconds * k))
                           for k in range(7))
            self.assertEqual(row_of(calendar, local, spell, 7), wanted)


class BetweenTest(unittest.TestCase):
    def test_known_spells(self):
        self.assertEqual(most_between(COMMON, at(2026, 0, 30), at(2026, 1, 27)).shown(), (1, 0, 0))
        self.assertEqual(most_between(COMMON, at(2026, 0, 30, 5), at(2026, 1, 27, 4)).shown(), (0, 27, DAY - 1))
        self.assertEqual(most_between(COMMON, at(2024, 1, 28), at(2026, 10, 19, 7)).shown(), (32, 22, 7))
        self.assertTrue(most_between(COMMON, 77, 77).is_bare())
        self.assertEqual(most_between(COMMON, -5, 5).shown(), (0, 0, 10))

    def test_as_trying_each_number_of_months(self):
        draw = random.Random(5)
        for calendar in all_calendars():
            for _ in range(60):
                first = draw.randrange(-200 * DAY, 200 * DAY)
                last = first + draw.randrange(100 * DAY)
                months = 0
                while on_by_going(calendar, first, Spell(months + 1)) <= last:
                    months += 1
                rest = last - on_by_going(calendar, first, Spell(months))
                spell = most_between(calendar, first, last)
                self.assertEqual(spell.shown(), (months, rest // DAY, rest - rest // DAY * DAY))
                self.assertEqual(on(calendar, first, spell), last)

    def test_refused(self):
        for first, last in ((1, 0), (0, -1), (at(2026, 1, 0), at(2026, 0, 30))):
            with self.assertRaises(BadTime):
                most_between(COMMON, first, last)


class WrittenTest(unittest.TestCase):
    TOLD = [((0, 0, 0), "0d"), ((1, 0, 0), "1n"), ((12, 0, 0), "1y"), ((14, 3, 3661), "1y2n3dt1h1m1s"),
            ((0, 40, 0), "40d"), ((0, 0, 1), "t1s"), ((24, 0, 90000), "2yt1d1h"), ((0, 7, 60), "7dt1m")]

    def test_told_and_read(self):
        for parts, text in self.TOLD:
            self.assertEqual(told_spell(COMMON, Spell(*parts)), text)
            self.assertEqual(read_spell(COMMON, text).shown(), parts)
        one_month = Calendar((5,), 0, 3, (), 1)
        self.assertEqual(told_spell(one_month, Spell(3, 1)), "3y1d")
        self.assertEqual(read_spell(one_month, "3y2n").shown(), (5, 0, 0))

    def test_told_is_read_as_it_was(self):
        draw = random.Random(6)
        for calendar in all_calendars():
            for _ in range(80):
                parts = [draw.choice([0, draw.randrange(most)]) for most in (500, 500, 10 ** 6)]
                text = told_spell(calendar, Spell(*parts))
                self.assertEqual(read_spell(calendar, text).shown(), tuple(parts))

    def test_read_though_told_otherwise(self):
        self.assertEqual(read_spell(COMMON, "0y0n0dt0s").shown(), (0, 0, 0))
        self.assertEqual(read_spell(COMMON, "1y30n").shown(), (42, 0, 0))
        self.assertEqual(read_spell(COMMON, "99999y99999n99999d").shown(), (99999 * 13, 99999, 0))
        self.assertEqual(read_spell(COMMON, "0yt999999d").shown(), (0, 0, 999999 * DAY))

    def test_refused(self):
        for text in ("", "t", "1yt", "1dt", "y", "1", "1y2", "d1", "1n1y", "1d1d", "1d1n", "01d", "00d", "100000d", "-1d",
                     "+1d", "1.5d", " 1d", "1d ", "1 d", "1y 2n", "1Y", "1s", "1h", "1dt1x", "1dt05s", "1dtt1s", "1dt1s1h",
                     "1w", "t1d1d", "t1y", "1dt 1s", "\u0661d", "\u00b2d", "1d\n"):
            with self.assertRaises(BadText, msg=text):
                read_spell(COMMON, text)
