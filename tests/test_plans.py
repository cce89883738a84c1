"""Promise 13: plans with dropped, added and moved days; of promise 1, plans through zones and after any changes."""

import random
import unittest

from recurwright.calendars import common
from recurwright.clocks import DAY
from recurwright.days import Day
from recurwright.errors import BadRule, BadTime, NoDay, NoSuch
from recurwright.plans import Plan, all_clashes, all_spans
from recurwright.rules import Every, Is, Pick, always, never
from recurwright.seasons import Turn, zone_of
from recurwright.zones import Zone
from tests.support import all_calendars, some_rule

COMMON = common()
NONE = Zone(0)
HOUR = 3600
MONDAYS = Is("weekday", (0,))
SUMMER = Zone(HOUR, [(40 * DAY + HOUR, 2 * HOUR), (80 * DAY + HOUR, HOUR)])


def plan_of(rule, first=0, last=None, time=9 * HOUR, length=HOUR, zone=NONE, calendar=COMMON):
    return Plan(calendar, rule, time, length, zone, first, last)


class Model:
    """A plan as a table of all its days between two days to their times."""

    def __init__(self, plan, low, high):
        self.plan = plan
        calendar = plan.counter.calendar
        end = high if plan.last is None else plan.last
        self.days = {day: plan.time for day in range(low, high)
                     if plan.first <= day < end and plan.rule.has(Day(calendar, day))}

    def same(self, test, low, high, end):
        """Hold each answer of the plan's against the table; from the end on, the table may lack days."""
        plan = self.plan
        wanted = sorted(day for day in self.days if low <= day < high)
        test.assertEqual(plan.days_between(low, high), tuple(wanted))
        spans = []
        for day in range(low, high):
            test.assertEqual(plan.has(day), day in self.days)
            if day in self.days:
                begins = plan.zone.time_of(day * DAY + self.days[day])
                spans.append((begins, begins + plan.length))
                test.assertEqual(plan.span(day), spans[-1])
            later = [other for other in self.days if other >= day]
            if later != [] and min(later) < end:
                test.assertEqual(plan.next_day(day), min(later))
        test.assertEqual(plan.spans(low, high), tuple(spans))
        if plan.last is not None:
            test.assertEqual(plan.how_many(), len(self.days))


class PlanTest(unittest.TestCase):
    def test_fields(self):
        rule = Is("day", (0,))
        plan = Plan(COMMON, rule, 60, 5, SUMMER, -3, 9)
        self.assertEqual((plan.time, plan.length, plan.first, plan.last), (60, 5, -3, 9))
        self.assertEqual((plan.dropped, plan.added, plan.moved), ({}, {}, {}))
        self.assertIs(plan.rule, rule)
        self.assertIs(plan.zone, SUMMER)
        self.assertEqual(plan.counter.next(1), 31)
        self.assertIsNone(Plan(COMMON, rule, 60, 5, SUMMER, -3).last)
        self.assertEqual(Plan(COMMON, rule, 0, 1, NONE, 0).span(0), (0, 1))

    def test_first_and_last_day(self):
        plan = plan_of(MONDAYS, 9, 30)
        self.assertEqual([COMMON.weekday_of(day) for day in (2, 9, 16, 23, 30)], [0, 0, 0, 0, 0])
        self.assertEqual([day for day in range(-9, 60) if plan.ruled(day)], [9, 16, 23])
        self.assertEqual(plan.days_between(-100, 100), (9, 16, 23))
        self.assertEqual(plan.days_between(9, 23), (9, 16))
        self.assertEqual((plan.next_day(-50), plan.next_day(17), plan.next_day(23)), (9, 23, 23))
        self.assertEqual(plan.how_many(), 3)
        with self.assertRaises(NoDay):
            plan.next_day(24)
        self.assertEqual((plan.days_between(50, 60), plan.days_between(-60, -50), plan.days_between(20, 10)), ((), (), ()))
        none = plan_of(MONDAYS, 9, 9)
        self.assertEqual((none.how_many(), none.days_between(0, 99), none.has(9)), (0, (), False))

    def test_no_last_day(self):
        plan = plan_of(MONDAYS, 9)
        self.assertIsNone(plan.how_many())
        self.assertEqual(plan.next_day(10 ** 9) - 10 ** 9, (0 - COMMON.weekday_of(10 ** 9)) % 7)
        plan.drop(9)
        self.assertIsNone(plan.how_many())
        self.assertEqual(plan.next_day(0), 16)

    def test_rules_with_no_day(self):
        for last in (None, 50):
            plan = plan_of(never(), 0, last)
            self.assertEqual((plan.how_many(), plan.days_between(-9, 99), plan.ruled(3)), (0, (), False))
            with self.assertRaises(NoDay):
                plan.next_day(0)
            plan.add(70)
            plan.add(-5)
            self.assertEqual((plan.how_many(), plan.days_between(-9, 99)), (2, (-5, 70)))
            self.assertEqual((plan.next_day(-5), plan.next_day(-4)), (-5, 70))
            with self.assertRaises(NoDay):
                plan.next_day(71)

    def test_dropped_and_added_again(self):
        plan = plan_of(MONDAYS, 0, 60)
        made = plan_of(MONDAYS, 0, 60).shown()
        plan.drop(9)
        self.assertEqual(plan.shown(), (9 * HOUR, HOUR, 0, 60, (9,), (), ()))
        self.assertFalse(plan.has(9))
        self.assertTrue(plan.ruled(9))
        self.assertEqual(plan.next_day(3), 16)
        plan.add(9)
        self.assertEqual(plan.shown(), made)
        plan.add(10)
        plan.add(-4)
        self.assertEqual(plan.shown()[4:], ((), (-4, 10), ()))
        self.assertTrue(plan.has(10))
        self.assertFalse(plan.ruled(10))
        self.assertEqual((plan.days_between(-4, 10), plan.days_between(-3, 11)), ((-4, 2, 9), (2, 9, 10)))
        plan.drop(10)
        plan.drop(-4)
        self.assertEqual(plan.shown(), made)
        plan.drop(16)
        plan.drop(2)
        self.assertEqual(plan.shown()[4:], ((2, 16), (), ()))
        plan.add(2)
        plan.add(16)
        self.assertEqual((plan.dropped, plan.added, plan.moved), ({}, {}, {}))

    def test_moved(self):
        plan = plan_of(MONDAYS, 0, 60)
        made = plan.shown()
        plan.move(9, HOUR)
        self.assertEqual(plan.shown()[4:], ((), (), ((9, HOUR),)))
        self.assertEqual(plan.span(9), (9 * DAY + HOUR, 9 * DAY + 2 * HOUR))
        plan.move(9, 5)
        plan.move(2, 0)
        self.assertEqual(plan.shown()[4:], ((), (), ((2, 0), (9, 5))))
        plan.move(9, 9 * HOUR)
        plan.move(2, 9 * HOUR)
        self.assertEqual(plan.shown(), made)
        plan.add(10)
        plan.move(10, 7)
        self.assertEqual(plan.shown()[4:], ((), (10,), ((10, 7),)))
        self.assertEqual(plan.span(10), (10 * DAY + 7, 10 * DAY + 7 + HOUR))

    def test_dropped_days_moved_time_is_forgotten(self):
        plan = plan_of(MONDAYS, 0, 60)
        plan.move(9, 5)
        plan.drop(9)
        self.assertEqual(plan.shown()[4:], ((9,), (), ()))
        plan.add(9)
        self.assertEqual((plan.shown()[4:], plan.span(9)[0]), (((), (), ()), 9 * DAY + 9 * HOUR))
        plan.add(10)
        plan.move(10, 5)
        plan.drop(10)
        plan.add(10)
        self.assertEqual((plan.shown()[4:], plan.span(10)[0]), (((), (10,), ()), 10 * DAY + 9 * HOUR))

    def test_refused(self):
        for args in ((MONDAYS, 9, 8), (MONDAYS, 0, -1)):
            with self.assertRaises(BadTime):
                plan_of(*args)
        for time, length in ((0, 0), (0, -1), (-1, 5), (DAY, 5)):
            with self.assertRaises(BadTime):
                plan_of(MONDAYS, time=time, length=length)
        with self.assertRaises(BadRule):
            plan_of(Every("days", 17, 0))

    def test_what_is_refused_changes_nothing(self):
        plan = plan_of(MONDAYS, 0, 60)
        plan.drop(9)
        plan.add(10)
        plan.move(16, 5)
        shown = plan.shown()
        for refused in (lambda: plan.drop(9), lambda: plan.drop(11), lambda: plan.drop(65), lambda: plan.add(10),
                        lambda: plan.add(16), lambda: plan.move(9, 5), lambda: plan.move(11, 5),
                        lambda: plan.move(9, DAY), lambda: plan.span(9), lambda: plan.span(11), lambda: plan.span(-5)):
            with self.assertRaises(NoSuch):
                refused()
            self.assertEqual(plan.shown(), shown)
        for time in (-1, DAY):
            for day in (10, 16, 23):
                with self.assertRaises(BadTime):
                    plan.move(day, time)
                self.assertEqual(plan.shown(), shown)


class ZoneTest(unittest.TestCase):
    def test_gap_and_twice(self):
        # Local two o'clock of day forty is left out; that of day eighty comes twice.
        plan = plan_of(always(), 0, 99, 2 * HOUR, 60, SUMMER)
        self.assertEqual(SUMMER.times_of(40 * DAY + 2 * HOUR), ())
        self.assertEqual(plan.span(39)[0], 39 * DAY + HOUR)
        self.assertEqual(plan.span(40)[0], 40 * DAY + HOUR)
        self.assertEqual(plan.span(41)[0], 41 * DAY)
        self.assertEqual(len(SUMMER.times_of(80 * DAY + 2 * HOUR)), 2)
        self.assertEqual(plan.span(80), (80 * DAY, 80 * DAY + 60))
        self.assertEqual(plan.span(81)[0], 81 * DAY + HOUR)
        self.assertEqual(plan.spans(39, 42), (plan.span(39), plan.span(40), plan.span(41)))

    def test_each_local_time_through_many_turns(self):
        turns = [Turn(Pick(Is("weekday", (6,)), "year", (12,)), 2 * HOUR, 2 * HOUR),
                 Turn(Pick(Is("weekday", (6,)), "year", (42,)), 3 * HOUR, HOUR)]
        zone = zone_of(COMMON, HOUR, turns, 1990, 2030)
        plan = plan_of(MONDAYS, 0, None, 9 * HOUR, HOUR, zone)
        for first, last in plan.spans(COMMON.first_of(1990), COMMON.first_of(2030)):
            self.assertEqual(zone.local(first) % DAY, 9 * HOUR)
            self.assertEqual(COMMON.weekday_of(zone.local(first) // DAY), 0)
            self.assertEqual(last - first, HOUR)

    def test_spans_stand_in_order_of_the_days(self):
        back = Zone(0, [(5 * DAY, -20 * HOUR)])
        plan = plan_of(always(), 0, 9, 5 * HOUR, 60, back)
        plan.move(3, DAY - 1)
        self.assertEqual(plan.spans(2, 7), tuple(plan.span(day) for day in range(2, 7)))


class GoingThroughTest(unittest.TestCase):
    def changed(self, draw, model, low, high):
        """Change a plan's day and the table, where it may be; told whether it was."""
        plan, day = model.plan, draw.randrange(low, high)
        kind = draw.choice(["drop", "add", "move"])
        if kind == "add" and day not in model.days:
            plan.add(day)
            model.days[day] = plan.time
        elif kind == "drop" and day in model.days:
            plan.drop(day)
            del model.days[day]
        elif kind == "move" and day in model.days:
            model.days[day] = draw.choice([plan.time, 0, 5 * HOUR, DAY - 1])
            plan.move(day, model.days[day])
        else:
            with self.assertRaises(NoSuch):
                {"add": plan.add, "drop": plan.drop, "move": lambda day: plan.move(day, 0)}[kind](day)

    def made_anew(self, plan):
        """A plan made anew, with the days that are left."""
        calendar = plan.counter.calendar
        again = Plan(calendar, plan.rule, plan.time, plan.length, plan.zone, plan.first, plan.last)
        time, length, first, last, dropped, added, moved = plan.shown()
        for day in added:
            again.add(day)
        for day in dropped:
            again.drop(day)
        for day, when in moved:
            again.move(day, when)
        return again

    def test_after_any_changes(self):
        zones = [NONE, Zone(-HOUR), Zone(HOUR, [(5 * DAY, 10 * HOUR), (9 * DAY, -3 * HOUR), (30 * DAY, 0)])]
        for calendar in all_calendars():
            draw = random.Random(13)
            for turn in range(9):
                first = draw.randrange(-20, 20)
                last = draw.choice([None, first + draw.randrange(50)])
                rule = some_rule(draw, calendar, 2)
                time, length = draw.randrange(DAY), draw.randrange(1, 2 * DAY)
                plan = Plan(calendar, rule, time, length, zones[turn // 3], first, last)
                model = Model(plan, -150, 150)
                model.same(self, -40, 90, 150)
                for _ in range(60):
                    self.changed(draw, model, -30, 70)
                model.same(self, -40, 90, 150)
                again = self.made_anew(plan)
                self.assertEqual(again.shown(), plan.shown())
                self.assertEqual(again.how_many(), plan.how_many())
                model.plan = again
                model.same(self, -40, 90, 150)

    def test_many_dropped(self):
        plan = plan_of(always(), 0)
        for day in range(10, 500):
            plan.drop(day)
        self.assertEqual((plan.next_day(5), plan.next_day(10), plan.next_day(499)), (5, 500, 500))
        self.assertEqual(plan.days_between(8, 502), (8, 9, 500, 501))


class ManyPlansTest(unittest.TestCase):
    def setUp(self):
        self.plans = [
            plan_of(always(), 0, 5, 9 * HOUR, HOUR), plan_of(Is("weekday", (0, 1)), 0, None, 9 * HOUR, HOUR),
            plan_of(always(), 0, 4, 20 * HOUR, 30 * HOUR), plan_of(never(), 0),
        ]

    def test_all_spans(self):
        rows = all_spans(self.plans, 1, 4)
        wanted = sorted((plan.span(day), number, day) for number, plan in enumerate(self.plans)
                        for day in plan.days_between(1, 4))
        self.assertEqual(rows, tuple(wanted))
        self.assertEqual(len(rows), 3 + 2 + 3)
        alike = [row[1:] for row in rows if row[0] == (2 * DAY + 9 * HOUR, 2 * DAY + 10 * HOUR)]
        self.assertEqual(alike, [(0, 2), (1, 2)])
        self.assertEqual(all_spans((), 0, 9), ())
        self.assertEqual(all_spans(self.plans, 9, 1), ())

    def test_all_clashes_as_trying_each_two(self):
        for low, high in ((0, 5), (1, 3), (2, 2)):
            rows = all_spans(self.plans, low, high)
            wanted = [(rows[one][1:], rows[other][1:]) for one in range(len(rows)) for other in range(one + 1, len(rows))
                      if rows[one][0][0] < rows[other][0][1] and rows[other][0][0] < rows[one][0][1]]
            self.assertEqual(all_clashes(self.plans, low, high), tuple(wanted))
        # A plan that lasts past its next day's beginning comes at once with itself.
        self.assertIn(((2, 0), (2, 1)), all_clashes(self.plans, 0, 5))
        self.assertEqual(all_clashes(self.plans[:1], 0, 5), ())

    def test_spans_that_touch_do_not_clash(self):
        one, other = plan_of(always(), 0, 9, 0, HOUR), plan_of(always(), 0, 9, HOUR, DAY - HOUR)
        self.assertEqual(all_clashes([one, other], 0, 9), ())
