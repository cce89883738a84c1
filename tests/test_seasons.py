"""Promise 10, the turns of seasons; and of promise 1, what is refused and what is told in order."""

import unittest

from recurwright.calendars import Calendar, common
from recurwright.clocks import DAY
from recurwright.days import Day
from recurwright.errors import BadRule, BadZone, NoDay
from recurwright.rules import All, Every, Is, Moved, Pick, always, never
from recurwright.seasons import Turn, changes_in, summer_days, turn_days, zone_of
from recurwright.zones import Zone
from tests.support import all_calendars, small_calendars

COMMON = common()
SUNDAYS = Is("weekday", (6,))


def last_sunday(month):
    return Pick(All((Is("month", (month,)), SUNDAYS)), "month", (-1,))


FORTH = Turn(last_sunday(2), 2 * 3600, 7200)
BACK = Turn(last_sunday(9), 3 * 3600, 3600)


def at(year, month, day, time=0):
    return COMMON.number_of(year, month, day) * DAY + time


class TurnTest(unittest.TestCase):
    def test_fields(self):
        rule = always()
        turn = Turn(rule, 60, -5)
        self.assertIs(turn.rule, rule)
        self.assertEqual((turn.time, turn.far), (60, -5))

    def test_known_days(self):
        days = turn_days(COMMON, FORTH, 2025, 2027)
        self.assertIsInstance(days, tuple)
        self.assertEqual([COMMON.date(day) for day in days], [(2025, 2, 29), (2026, 2, 28), (2027, 2, 27)])
        self.assertEqual([COMMON.date(day) for day in turn_days(COMMON, BACK, 2026, 2026)], [(2026, 9, 24)])

    def test_first_day_of_each_year_as_going_through(self):
        for calendar in all_calendars():
            for rule in (always(), Is("back", (0,)), Is("weekday", (0,)), Every("days", 2, 1)):
                wanted = []
                for year in range(-4, 5):
                    numbers = range(calendar.first_of(year), calendar.first_of(year + 1))
                    wanted.append([day for day in numbers if rule.has(Day(calendar, day))][:1])
                if [] in wanted:
                    with self.assertRaises(NoDay):
                        turn_days(calendar, Turn(rule, 0, 0), -4, 4)
                else:
                    self.assertEqual(turn_days(calendar, Turn(rule, 0, 0), -4, 4), tuple(row[0] for row in wanted))

    def test_first_and_last_day_of_a_year(self):
        for calendar in all_calendars():
            first = turn_days(calendar, Turn(Is("year day", (0,)), 0, 0), -3, 3)
            self.assertEqual(first, tuple(calendar.first_of(year) for year in range(-3, 4)))
            last = turn_days(calendar, Turn(Is("year back", (0,)), 0, 0), -3, 3)
            self.assertEqual(last, tuple(calendar.first_of(year + 1) - 1 for year in range(-3, 4)))

    def test_no_years(self):
        self.assertEqual(turn_days(COMMON, FORTH, 2026, 2025), ())
        self.assertEqual(turn_days(COMMON, Turn(never(), 0, 0), 5, 4), ())

    def test_refused(self):
        long_days = Turn(Is("year day", (365,)), 0, 0)
        self.assertEqual(len(turn_days(COMMON, long_days, 2024, 2024)), 1)
        for turn, first, last in ((long_days, 2024, 2025), (long_days, 2021, 2024), (Turn(never(), 0, 0), 3, 3)):
            with self.assertRaises(NoDay):
                turn_days(COMMON, turn, first, last)
            with self.assertRaises(NoDay):
                zone_of(COMMON, 0, [turn], first, last)
        # The first day from an odd year on is the very first of the year behind it.
        even_years = Turn(All((Every("years", 2, 0), Is("year day", (0,)))), 0, 0)
        self.assertEqual(turn_days(COMMON, even_years, 2026, 2026), (COMMON.first_of(2026),))
        with self.assertRaises(NoDay):
            turn_days(COMMON, even_years, 2026, 2027)
        late = Turn(Every("days", 17, 0), 0, 0)
        for refused in (lambda: turn_days(COMMON, late, 0, 0), lambda: zone_of(COMMON, 0, (late,), 0, 0)):
            with self.assertRaises(BadRule):
                refused()


class ZoneOfTest(unittest.TestCase):
    def test_known_zone(self):
        zone = zone_of(COMMON, 3600, [BACK, FORTH], 2025, 2026)
        self.assertEqual(zone.shown(), (3600, (
            (at(2025, 2, 29, 3600), 7200), (at(2025, 9, 25, 3600), 3600),
            (at(2026, 2, 28, 3600), 7200), (at(2026, 9, 24, 3600), 3600))))
        self.assertEqual(zone.gaps()[0], (at(2025, 2, 29, 7200), at(2025, 2, 29, 3 * 3600)))
        self.assertEqual(zone.folds()[1], (at(2026, 9, 24, 7200), at(2026, 9, 24, 3 * 3600)))
        self.assertEqual(zone_of(COMMON, 60, (), 0, 9).shown(), (60, ()))
        self.assertEqual(zone_of(COMMON, 60, (FORTH, BACK), 9, 8).shown(), (60, ()))

    def test_as_a_clock_that_is_turned(self):
        step = 1800
        for calendar in small_calendars()[1:4]:
            turns = [Turn(Is("year day", (0,)), 2 * 3600, 5400), Turn(Is("year back", (0,)), 20 * 3600, -3600),
                     Turn(Pick(Every("days", 3, 1), "year", (1,)), 0, 1800)]
            zone = zone_of(calendar, 7200, turns, -2, 3)
            due = sorted((day * DAY + turn.time, turn.far) for turn in turns for day in turn_days(calendar, turn, -2, 3))
            ahead = 7200
            for when in range(calendar.first_of(-3) * DAY, calendar.first_of(5) * DAY, step):
                while due != [] and due[0][0] <= when + ahead:
                    self.assertEqual(due[0][0], when + ahead)
                    ahead = due.pop(0)[1]
                self.assertEqual(zone.ahead(when), ahead)
            self.assertEqual(due, [])

    def test_first_and_last_day_of_a_year(self):
        turns = [Turn(Is("year day", (0,)), 0, 3600), Turn(Is("year back", (0,)), DAY - 1, 0)]
        zone = zone_of(COMMON, 0, turns, 2025, 2026)
        self.assertEqual(zone.shown(), (0, (
            (at(2025, 0, 0), 3600), (at(2025, 11, 30, DAY - 3601), 0),
            (at(2026, 0, 0), 3600), (at(2026, 11, 30, DAY - 3601), 0))))

    def test_refused(self):
        same = Turn(Is("month", (5,)), 3600, 7200)
        same_time = Turn(Pick(Is("month", (5, 6)), "year", (0,)), 3600, 7200)
        again = Turn(Is("month", (5,)), 3600, 0)
        for turns in ([same, same_time], [same, again], [again, FORTH, same]):
            with self.assertRaises(BadZone):
                zone_of(COMMON, 0, turns, 2025, 2026)
            with self.assertRaises(BadZone):
                zone_of(COMMON, 10 * 3600, turns, 2025, 2025)
        # The clock is put forth past the second turn, so that no time is left between them.
        with self.assertRaises(BadZone):
            zone_of(COMMON, 0, [same, Turn(Is("month", (5,)), 3600 + 7200, 0)], 2025, 2025)
        close = zone_of(COMMON, 0, [same, Turn(Is("month", (5,)), 3600 + 7201, 0)], 2025, 2025)
        self.assertEqual(close.changes, ((at(2025, 5, 0, 3600), 7200), (at(2025, 5, 0, 3601), 0)))
        for start, far in ((DAY, 0), (0, DAY), (0, -DAY)):
            with self.assertRaises(BadZone):
                zone_of(COMMON, start, [Turn(always(), 0, far)], 0, 0)


class YearTest(unittest.TestCase):
    def test_summer_days(self):
        zone = zone_of(COMMON, 3600, [BACK, FORTH], 2020, 2030)
        self.assertEqual(summer_days(COMMON, zone, 2026), 210)
        for year in range(2020, 2031):
            days = turn_days(COMMON, BACK, year, year)[0] - turn_days(COMMON, FORTH, year, year)[0]
            self.assertEqual(summer_days(COMMON, zone, year), days)
        self.assertEqual([summer_days(COMMON, zone, year) for year in (2019, 2031)], [0, 0])
        self.assertEqual(summer_days(COMMON, Zone(5), 2026), 0)

    def test_summer_over_the_turn_of_the_year(self):
        turns = [Turn(last_sunday(2), 3 * 3600, 36000), Turn(last_sunday(9), 2 * 3600, 39600)]
        zone = zone_of(COMMON, 39600, turns, 2020, 2030)
        self.assertEqual(summer_days(COMMON, zone, 2026), 365 - 210)
        self.assertEqual(summer_days(COMMON, zone, 2024), 366 - 210)

    def test_days_that_begin_in_a_gap_or_twice(self):
        calendar = Calendar((4, 4), 0, 2, (), 7)
        midnight = Zone(0, [(2 * DAY, 3600), (5 * DAY - 3600, 0)])
        # Day two begins in the gap, an hour ahead already; day five begins twice, at first an hour ahead still.
        self.assertEqual(midnight.times_of(2 * DAY), ())
        self.assertEqual(len(midnight.times_of(5 * DAY - 1)), 2)
        self.assertEqual(summer_days(calendar, midnight, 0), 3)
        twice = Zone(0, [(2 * DAY, 3600), (5 * DAY, 0)])
        self.assertEqual(summer_days(calendar, twice, 0), 4)

    def test_changes_in(self):
        zone = zone_of(COMMON, 3600, [BACK, FORTH], 2025, 2026)
        self.assertEqual(changes_in(COMMON, zone, 2026), ((at(2026, 2, 28, 3600), 7200), (at(2026, 9, 24, 3600), 3600)))
        self.assertEqual(changes_in(COMMON, zone, 2027), ())
        edges = Zone(0, [(at(2026, 0, 0) - 1, 1), (at(2026, 0, 0), 2), (at(2027, 0, 0) - 1, 3), (at(2027, 0, 0), 4)])
        self.assertEqual([row[1] for row in changes_in(COMMON, edges, 2026)], [2, 3])
        self.assertEqual([row[1] for row in changes_in(COMMON, edges, 2025)], [1])
        # A turn early on a year's first day comes by the one time in the year ahead.
        early = zone_of(COMMON, 7200, [Turn(Moved(Is("year back", (0,)), 1), 3600, 0)], 2026, 2026)
        self.assertEqual(changes_in(COMMON, early, 2026), ())
        self.assertEqual(changes_in(COMMON, early, 2025), ((at(2026, 0, 0) - 3600, 0),))
