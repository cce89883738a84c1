"""Promise 23: alarms ahead of plans, told and put off."""

import random
import unittest

from recurwright.alarms import Alarms
from recurwright.calendars import common
from recurwright.clocks import DAY
from recurwright.errors import BadTime, NoSuch
from recurwright.plans import Plan
from recurwright.rules import Is, always, never
from recurwright.zones import Zone
from tests.support import small_calendars, some_rule

COMMON = common()
NONE = Zone(0)
HOUR = 3600


def plan_of(rule, time=9 * HOUR, first=0, last=None, zone=NONE, calendar=COMMON):
    return Plan(calendar, rule, time, HOUR, zone, first, last)


class PutAndTakeTest(unittest.TestCase):
    def test_fields(self):
        alarms = Alarms()
        self.assertEqual((alarms.rows, alarms.told_to, alarms.later, alarms.waiting()), ({}, None, [], ()))
        plan = plan_of(always())
        alarms.put("a", plan, 60)
        self.assertIs(alarms.rows["a"][0], plan)
        self.assertEqual(alarms.rows["a"][1], 60)
        alarms.take("a")
        self.assertEqual(alarms.rows, {})

    def test_what_is_refused_changes_nothing(self):
        alarms = Alarms()
        alarms.put("a", plan_of(always()), 0)
        alarms.tell(0)
        alarms.tell(DAY)
        alarms.put_off((9 * HOUR, "a", 9 * HOUR), 5)
        row = (9 * HOUR, "b", 9 * HOUR)
        for error, refused in ((NoSuch, lambda: alarms.put("a", plan_of(never()), 5)), (NoSuch, lambda: alarms.take("b")),
                               (NoSuch, lambda: alarms.put("a", plan_of(never()), -5)),
                               (BadTime, lambda: alarms.put("b", plan_of(never()), -1)), (BadTime, lambda: alarms.tell(DAY - 1)),
                               (NoSuch, lambda: alarms.put_off(row, 5)), (NoSuch, lambda: alarms.put_off(row, -5)),
                               (BadTime, lambda: alarms.put_off((0, "a", 0), -1))):
            with self.assertRaises(error):
                refused()
            self.assertEqual((list(alarms.rows), alarms.rows["a"][1], alarms.told_to), (["a"], 0, DAY))
            self.assertEqual(alarms.waiting(), ((DAY + 5, "a", 9 * HOUR),))

    def test_put_off_ahead_of_all_tellings(self):
        alarms = Alarms()
        with self.assertRaises(NoSuch):
            alarms.put_off((0, "a", 0), 5)
        alarms.put("a", plan_of(always()), 0)
        with self.assertRaises(BadTime):
            alarms.put_off((0, "a", 0), 5)
        self.assertEqual(alarms.waiting(), ())


class DueTest(unittest.TestCase):
    def test_known(self):
        alarms = Alarms()
        alarms.put("walk", plan_of(always()), HOUR)
        alarms.put("bath", plan_of(Is("weekday", (0,)), 8 * HOUR), 0)
        alarms.put("call", plan_of(Is("day", (2,))), 2 * DAY)
        self.assertEqual(alarms.due(0, DAY), ((8 * HOUR, "walk", 9 * HOUR), (9 * HOUR, "call", 2 * DAY + 9 * HOUR)))
        monday = 2 * DAY + 8 * HOUR
        self.assertEqual(alarms.due(monday, monday + 1), ((monday, "bath", monday), (monday, "walk", monday + HOUR)))
        self.assertEqual((alarms.due(monday + 1, monday + 1), alarms.due(monday + 1, monday)), ((), ()))
        self.assertEqual(alarms.due(-9 * DAY, -8 * DAY), ())
        self.assertEqual(Alarms().due(0, DAY), ())

    def test_as_going_through_days(self):
        draw = random.Random(23)
        for calendar in small_calendars() + [COMMON]:
            for _ in range(6):
                alarms, wanted = Alarms(), []
                for name in ("a", "b", "c"):
                    zone = Zone(draw.randrange(1 - DAY, DAY), [(draw.randrange(-DAY, DAY), draw.randrange(1 - DAY, DAY))])
                    plan = plan_of(some_rule(draw, calendar, 1), draw.randrange(DAY), -20, 20, zone, calendar)
                    ahead = draw.choice([0, 5, HOUR, 3 * DAY])
                    alarms.put(name, plan, ahead)
                    if not plan.has(3):
                        plan.add(3)
                    plan.move(3, draw.randrange(DAY))
                    wanted.extend((plan.span(day)[0] - ahead, name, plan.span(day)[0]) for day in range(-20, 20) if plan.has(day))
                edges = sorted(draw.randrange(-25 * DAY, 25 * DAY) for _ in range(8)) + [row[0] for row in wanted[:9]]
                for first in edges:
                    for last in edges:
                        told = tuple(sorted(row for row in wanted if first <= row[0] < last))
                        self.assertEqual(alarms.due(first, last), told)


class TellTest(unittest.TestCase):
    def setUp(self):
        self.alarms = Alarms()
        self.alarms.put("walk", plan_of(always()), HOUR)

    def test_first_telling_tells_nothing(self):
        self.assertEqual((self.alarms.tell(5 * DAY), self.alarms.told_to), ((), 5 * DAY))
        self.assertEqual(self.alarms.tell(6 * DAY), ((5 * DAY + 8 * HOUR, "walk", 5 * DAY + 9 * HOUR),))
        self.assertEqual(Alarms().tell(-7), ())

    def test_told_twice(self):
        self.alarms.tell(0)
        self.assertEqual(self.alarms.tell(8 * HOUR), ())
        self.assertEqual(self.alarms.tell(8 * HOUR + 1), ((8 * HOUR, "walk", 9 * HOUR),))
        self.assertEqual((self.alarms.tell(8 * HOUR + 1), self.alarms.tell(DAY)), ((), ()))

    def test_put_off(self):
        self.alarms.tell(0)
        row = self.alarms.tell(8 * HOUR + 1)[0]
        self.alarms.put_off(row, 600)
        self.alarms.put_off(list(row), 300)
        self.alarms.put_off(row, 5 * DAY)
        first, second = (8 * HOUR + 301, "walk", 9 * HOUR), (8 * HOUR + 601, "walk", 9 * HOUR)
        third = (5 * DAY + 8 * HOUR + 1, "walk", 9 * HOUR)
        self.assertEqual(self.alarms.waiting(), (first, second, third))
        self.assertEqual(self.alarms.tell(8 * HOUR + 301), ())
        self.assertEqual(self.alarms.tell(8 * HOUR + 302), (first,))
        self.assertEqual(self.alarms.waiting(), (second, third))
        self.assertEqual(self.alarms.tell(2 * DAY), (second, (DAY + 8 * HOUR, "walk", DAY + 9 * HOUR)))
        # Later than up to when all was told, not than the row was due.
        self.alarms.put_off(second, 0)
        self.assertEqual(self.alarms.waiting(), ((2 * DAY, "walk", 9 * HOUR), third))
        self.assertEqual(self.alarms.tell(2 * DAY), ())
        self.assertEqual(self.alarms.tell(2 * DAY + 1), ((2 * DAY, "walk", 9 * HOUR),))
        self.assertEqual(self.alarms.tell(6 * DAY)[-1], third)
        self.assertEqual(self.alarms.waiting(), ())

    def test_taken_plans(self):
        self.alarms.put("bath", plan_of(always()), 0)
        self.alarms.tell(0)
        rows = self.alarms.tell(DAY)
        for row in rows:
            self.alarms.put_off(row, 60)
        self.alarms.take("walk")
        self.assertEqual(self.alarms.waiting(), ((DAY + 60, "bath", 9 * HOUR),))
        with self.assertRaises(NoSuch):
            self.alarms.put_off(rows[0], 60)
        # Put in again it begins anew: what was put off doesn't come back.
        self.alarms.put("walk", plan_of(always()), 0)
        self.assertEqual(self.alarms.tell(DAY + 61), ((DAY + 60, "bath", 9 * HOUR),))
        self.alarms.put_off(rows[0], 60)
        self.assertEqual(self.alarms.waiting(), ((DAY + 121, "walk", 9 * HOUR),))

    def test_tellings_are_all_that_is_due(self):
        draw = random.Random(7)
        for _ in range(20):
            alarms = Alarms()
            for name in ("a", "b"):
                alarms.put(name, plan_of(Is("weekday", (draw.randrange(7), 3)), draw.randrange(DAY)), draw.randrange(3 * DAY))
            time = draw.randrange(DAY)
            alarms.tell(time)
            start, told = time, []
            for _ in range(30):
                time += draw.randrange(2 * DAY)
                told.extend(alarms.tell(time))
            self.assertEqual(tuple(told), alarms.due(start, time))
