"""Promise 5: rules of days."""

import random
import unittest

from recurwright.calendars import common
from recurwright.days import Day, day_of
from recurwright.errors import BadRule
from recurwright.rules import PARTS, STEPS, All, Any, Every, Is, Moved, Not, Pick
from recurwright.rules import always, counted, day_at, never, part_of, unit_of
from tests.support import Table, all_calendars, small_calendars, some_rule

COMMON = common()


def days_in(rule, year, month):
    first = COMMON.number_of(year, month, 0)
    return [day for day in range(COMMON.month_days(year, month)) if rule.has(Day(COMMON, first + day))]


class RuleTest(unittest.TestCase):
    def same_as_told(self, calendar, table, rule, low, high):
        shown = rule.shown()
        for number in range(low, high):
            self.assertEqual(rule.has(Day(calendar, number)), table.means(shown, number), (shown, number))

    def test_parts_and_units(self):
        self.assertEqual(PARTS, ("weekday", "month", "day", "back", "year day", "year back", "nth", "nth back"))
        self.assertEqual(STEPS, ("days", "weeks", "months", "years"))
        for calendar in all_calendars():
            table = Table(calendar, -800, 800)
            for number in range(-40, 400, 3):
                day = Day(calendar, number)
                for part in PARTS:
                    self.assertEqual(part_of(day, part), table.part(number, part))
                for unit in STEPS:
                    self.assertEqual(unit_of(day, unit), table.unit(number, unit))
        for refused in (part_of, unit_of):
            with self.assertRaises(BadRule):
                refused(Day(COMMON, 0), "hour")

    def test_each_part_has_its_days(self):
        table = Table(COMMON, -1200, 1200)
        for part in PARTS:
            for number in (0, 1, 4, 30, 365):
                self.same_as_told(COMMON, table, Is(part, (number, 2)), -400, 400)
        self.assertEqual(days_in(Is("nth back", [0]), 2026, 10), list(range(23, 30)))
        self.assertEqual(days_in(Is("back", [0]), 2024, 1), [28])

    def test_every(self):
        for calendar in all_calendars():
            table = Table(calendar, -1200, 1200)
            for unit in STEPS:
                for count, start in ((1, 0), (2, 1), (3, -4), (5, 12)):
                    self.same_as_told(calendar, table, Every(unit, count, start), -80, 80)

    def test_put_together_from_none(self):
        for number in (-1000, -1, 0, 1, 1000):
            day = Day(COMMON, number)
            self.assertTrue(always().has(day) and All([]).has(day) and Not(Any(())).has(day))
            self.assertFalse(never().has(day) or Any([]).has(day) or Not(All(())).has(day))

    def test_moved_over_years_ends(self):
        new_year = Is("year day", (0,))
        self.assertTrue(Moved(new_year, -1).has(day_of(COMMON, 2025, 11, 30)))
        self.assertTrue(Moved(new_year, 366).has(day_of(COMMON, 2026, 0, 1)))
        self.assertTrue(Moved(Is("year back", (0,)), 1).has(day_of(COMMON, 0, 0, 0)))
        self.assertFalse(Moved(new_year, 1).has(day_of(COMMON, 2026, 0, 0)))

    def test_pick_in_months_and_years(self):
        worked = Is("weekday", (0, 1, 2, 3, 4))
        self.assertEqual(days_in(Pick(worked, "month", (-1,)), 2026, 9), [29])
        self.assertEqual(days_in(Pick(worked, "month", (0, -2)), 2026, 10), [1, 26])
        self.assertEqual(days_in(Pick(worked, "month", (23, -24)), 2026, 10), [])
        self.assertEqual(days_in(Pick(worked, "year", (0, 1)), 2027, 0), [0, 3])
        self.assertEqual(days_in(Pick(worked, "year", (-1,)), 2026, 11), [30])
        pick = Pick(worked, "month", (0,))
        far = day_of(COMMON, 2026, 10, 1)
        self.assertEqual([pick.has(far), pick.has(Day(COMMON, 0)), pick.has(far)], [True, False, True])

    def test_picked_by_two_calendars(self):
        pick = Pick(always(), "month", (1,))
        for calendar in small_calendars() + small_calendars():
            numbers = [number for number in range(50) if pick.has(Day(calendar, number))]
            self.assertEqual(numbers, [number for number in range(50) if calendar.date(number)[2] == 1])

    def test_counted(self):
        mondays = Is("weekday", (0,))
        self.assertEqual(counted(mondays, day_of(COMMON, 2026, 10, 15), "month"), (2, 2))
        self.assertEqual(counted(mondays, day_of(COMMON, 2026, 10, 16), "month"), (3, 2))
        self.assertEqual(counted(mondays, day_of(COMMON, 2026, 0, 0), "year"), (0, 52))
        self.assertEqual(counted(never(), day_of(COMMON, 2026, 0, 0), "year"), (0, 0))

    def test_rules_mean_what_their_words_say(self):
        for calendar in small_calendars():
            table = Table(calendar, -900, 900)
            draw = random.Random(5)
            for _ in range(60):
                self.same_as_told(calendar, table, some_rule(draw, calendar, 3), -50, 50)

    def test_shown(self):
        monday = Is("weekday", [0])
        self.assertEqual(Is("year day", [4, 2, 4]).shown(), ("is", "year day", (2, 4)))
        self.assertEqual(Every("weeks", 2, -1).shown(), ("every", "weeks", 2, -1))
        self.assertEqual(All([monday, never()]).shown(), ("all", (monday.shown(), ("any", ()))))
        self.assertEqual(Any([monday]).shown(), ("any", (("is", "weekday", (0,)),)))
        self.assertEqual(Not(monday).shown(), ("not", monday.shown()))
        self.assertEqual(Moved(monday, -3).shown(), ("moved", -3, monday.shown()))
        self.assertEqual(Pick(monday, "year", [0, -1]).shown(), ("pick", "year", (0, -1), monday.shown()))

    def test_steps(self):
        two, three = Every("days", 2, 5), Every("months", 3, 0)
        self.assertEqual(Is("day", (0,)).steps(), ())
        self.assertEqual(two.steps(), (("days", 2),))
        self.assertEqual(All([two, Any([three, always()])]).steps(), (("days", 2), ("months", 3)))
        for rule in (Not(two), Moved(two, 4), Pick(two, "month", (0,))):
            self.assertEqual(rule.steps(), (("days", 2),))

    def test_reach(self):
        monday = Is("weekday", [0])
        for rule in (monday, Every("years", 4, 0), always(), never(), Not(monday), Pick(monday, "year", (0,))):
            self.assertEqual(rule.reach(COMMON), 0)
        self.assertEqual(Moved(monday, -3).reach(COMMON), 3)
        self.assertEqual(Moved(Not(Moved(monday, -3)), 4).reach(COMMON), 7)
        self.assertEqual(All([Moved(monday, 2), Moved(monday, -9), monday]).reach(COMMON), 9)
        self.assertEqual(Any([Moved(monday, 2), Moved(monday, -9), monday]).reach(COMMON), 9)
        self.assertEqual(Pick(Moved(monday, 5), "month", (0,)).reach(COMMON), 5)

    def test_fields(self):
        self.assertEqual((Is("day", [3]).part, Is("day", [3]).numbers), ("day", (3,)))
        every = Every("days", 3, 2)
        self.assertEqual((every.unit, every.count, every.start), ("days", 3, 2))
        pick = Pick(every, "month", [1])
        self.assertEqual((pick.rule, pick.unit, pick.places), (every, "month", (1,)))
        self.assertEqual((All([every]).rules, Any([every]).rules, Not(every).rule), ((every,), (every,), every))
        self.assertEqual((Moved(every, 2).rule, Moved(every, 2).many), (every, 2))
        other = day_at(Day(COMMON, 5), -7)
        self.assertEqual((other.number, other.calendar is COMMON), (-7, True))

    def test_refused_rules(self):
        for part, numbers in (("hour", (1,)), ("days", (1,)), ("day", ()), ("day", (-1,)), ("day", (3, -1))):
            with self.assertRaises(BadRule):
                Is(part, numbers)
        for unit, count in (("day", 1), ("hours", 1), ("days", 0), ("years", -2)):
            with self.assertRaises(BadRule):
                Every(unit, count, 0)
        for unit, places in (("week", (0,)), ("months", (0,)), ("month", ()), ("year", [])):
            with self.assertRaises(BadRule):
                Pick(always(), unit, places)
