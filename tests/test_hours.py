"""Promise 19: hours open, but for other days; with promises 8, 13 and 14, plans on worked days and books of them."""

import random
import unittest

from recurwright.books import Book
from recurwright.calendars import common
from recurwright.clocks import DAY
from recurwright.days import Day
from recurwright.errors import BadTime, NoDay
from recurwright.hours import Hours, day_spans
from recurwright.plans import Plan
from recurwright.rules import Is
from recurwright.workdays import Works
from recurwright.zones import Zone
from tests.support import small_calendars

HOUR = 3600
STEP = 4 * HOUR
OFFICE = ((9 * HOUR, 12 * HOUR), (13 * HOUR, 17 * HOUR))
WEEK = (OFFICE, OFFICE, OFFICE, OFFICE, OFFICE, (), ())


class HoursTest(unittest.TestCase):
    def test_fields(self):
        hours = Hours(2, [[(5, 9), (1, 5)], ()], [(3, [(7, 8)]), [-4, ()]])
        self.assertEqual((hours.week, hours.rows, hours.others), (2, [((1, 9),), ()], {3: ((7, 8),), -4: ()}))
        self.assertEqual((Hours(1, [()]).others, Hours(1, [()], ()).others), ({}, {}))
        self.assertEqual([hours.of_day(day) for day in (0, 1, 2, 3, -1, -2, -4)],
                         [((1, 9),), (), ((1, 9),), ((7, 8),), (), ((1, 9),), ()])

    def test_known_week(self):
        hours = Hours(7, WEEK, [(2, ())])
        self.assertEqual((hours.in_week(), hours.in_row(0), hours.in_row(6)), (35 * HOUR, 7 * HOUR, 0))
        self.assertEqual([hours.in_day(day) for day in (0, 2, 6, 9, -7)], [7 * HOUR, 0, 0, 7 * HOUR, 7 * HOUR])
        told = [hours.is_open(time * HOUR) for time in (8, 9, 12, 13, 16, 17, 24 + 9, 48 + 9, 168 + 9, -168 + 9)]
        self.assertEqual(told, [False, True, False, True, True, False, True, False, True, True])
        self.assertFalse(hours.is_open(9 * HOUR - 1))
        self.assertEqual(hours.between(0, 7 * DAY), 28 * HOUR)
        self.assertEqual(hours.between(-7 * DAY, 0), 35 * HOUR)
        self.assertEqual(hours.next_open(4 * DAY + 17 * HOUR), 7 * DAY + 9 * HOUR)
        self.assertEqual(hours.next_shut(10 * HOUR), 12 * HOUR)
        self.assertEqual(hours.add(16 * HOUR, 2 * HOUR), DAY + 10 * HOUR)
        self.assertEqual(hours.add(DAY + 16 * HOUR, 2 * HOUR), 3 * DAY + 10 * HOUR)
        # By the end of a span all of it has gone, and no time behind it is the first such.
        self.assertEqual(hours.add(9 * HOUR, 3 * HOUR), 12 * HOUR)
        self.assertEqual(hours.add(9 * HOUR, 7 * HOUR), 17 * HOUR)

    def test_open_time_of_nought_added_on(self):
        for hours in (Hours(7, WEEK), Hours(1, [()])):
            for time in (-5, 0, 3 * HOUR, 10 * HOUR, 12 * HOUR):
                self.assertEqual(hours.add(time, 0), time)

    def some_hours(self, draw):
        """Hours whose spans begin and end on steps, and on the days' own ends."""
        edges = range(0, DAY + 1, STEP)
        day = lambda: draw.choice([(), [(0, DAY)], [sorted(draw.sample(edges, 2)) for _ in range(draw.randrange(3))]])
        week = draw.randrange(1, 5)
        others = {draw.randrange(-9, 12): day() for _ in range(draw.randrange(5))}
        return Hours(week, [day() for _ in range(week)], list(others.items()))

    def test_as_going_through_each_step(self):
        draw = random.Random(22)
        low, high = -12 * DAY, 20 * DAY
        for _ in range(60):
            hours = self.some_hours(draw)
            is_open = {}
            for time in range(low, high, STEP):
                spans = hours.others.get(time // DAY, hours.rows[time // DAY % hours.week])
                is_open[time] = any(first <= time % DAY < last for first, last in spans)
                self.assertEqual(hours.is_open(time), is_open[time])
                self.assertEqual(hours.is_open(time + STEP - 1), is_open[time])
            self.same_counts(hours, is_open, low, high)
            self.same_first_times(hours, is_open, high, draw)
            days = [hours.in_day(day) for day in range(20, 20 + hours.week)]
            self.assertEqual(hours.in_week(), sum(days))
            self.assertEqual(sorted(hours.in_row(day) for day in range(hours.week)), sorted(days))

    def same_counts(self, hours, is_open, low, high):
        ahead = -sum(STEP for time in is_open if time < 0 and is_open[time])
        first = ahead
        for time in range(low, high, STEP):
            self.assertEqual(hours.ahead(time), ahead)
            self.assertEqual(hours.between(low, time), ahead - first)
            more = 1000 if is_open[time] else 0
            self.assertEqual(hours.ahead(time + 1000), ahead + more)
            ahead += STEP if is_open[time] else 0

    def same_first_times(self, hours, is_open, high, draw):
        for time in range(-10 * DAY, 12 * DAY, 3 * STEP):
            for wanted, asked in ((True, hours.next_open), (False, hours.next_shut)):
                later = [other for other in range(time, high, STEP) if is_open[other] == wanted]
                for inside in (0, 77):
                    if later == []:
                        with self.assertRaises(NoDay):
                            asked(time + inside)
                    else:
                        self.assertEqual(asked(time + inside), max(later[0], time + inside))
            much = draw.randrange(1, 8) * STEP - draw.choice([0, 1, 500])
            left, here = much, time
            while here < high and left > 0:
                if is_open[here]:
                    left -= min(left, STEP)
                    end = here + min(much - hours.between(time, here), STEP)
                here += STEP
            if left == 0:
                self.assertEqual(hours.add(time, much), end)

    def test_never_open_and_never_shut(self):
        shut, always = Hours(3, [(), (), ()]), Hours(2, [[(0, DAY)], [(0, 5), (5, DAY)]])
        for time in (-50 * DAY, 0, 10 ** 12):
            for refused in (shut.next_open, always.next_shut, lambda time: shut.add(time, 1)):
                with self.assertRaises(NoDay):
                    refused(time)
            self.assertEqual((shut.next_shut(time), always.next_open(time)), (time, time))
            self.assertEqual((always.add(time, 10 ** 9), always.ahead(time), shut.ahead(time)), (time + 10 ** 9, time, 0))

    def test_other_days_alone(self):
        far = 10 ** 7
        hours = Hours(2, [(), ()], [(-far, [(0, DAY)]), (far, [(60, 90), (100, 200)])])
        self.assertEqual(hours.next_open(0), far * DAY + 60)
        self.assertEqual(hours.next_open(-far * DAY - 5), -far * DAY)
        self.assertEqual((hours.add(0, 30), hours.add(0, 31)), (far * DAY + 90, far * DAY + 101))
        self.assertEqual((hours.ahead(far * DAY + DAY), hours.ahead(-far * DAY)), (130, -DAY))
        for refused in (lambda: hours.next_open(far * DAY + 200), lambda: hours.add(0, 131)):
            with self.assertRaises(NoDay):
                refused()
        self.assertEqual(hours.add(0, 130), far * DAY + 200)
        rest = Hours(1, [[(0, DAY)]], [(far, [(0, 50)]), (-far, ())])
        self.assertEqual((rest.next_shut(0), rest.next_shut(-far * DAY - 9)), (far * DAY + 50, -far * DAY))
        with self.assertRaises(NoDay):
            rest.next_shut(far * DAY + DAY)

    def test_far_by_whole_weeks(self):
        hours = Hours(7, WEEK, [(2, ())])
        far = 7 * 10 ** 8
        self.assertEqual(hours.ahead(far * DAY) - hours.ahead(7 * DAY), (10 ** 8 - 1) * 35 * HOUR)
        self.assertEqual(hours.ahead(-far * DAY), -(10 ** 8) * 35 * HOUR)
        self.assertEqual(hours.add(7 * DAY, 10 ** 8 * 35 * HOUR), (7 + far - 3) * DAY + 17 * HOUR)

    def test_refused(self):
        for week, rows in ((0, []), (-1, []), (2, [()]), (1, [(), ()]), (0, [()]), (1, [[(0, DAY + 1)]]), (1, [[(-1, 5)]]),
                           (1, [[(5, 5)]]), (2, [(), [(6, 5)]])):
            with self.assertRaises(BadTime):
                Hours(week, rows)
        for others in ([(5, [(0, DAY + 1)])], [(5, [(3, 3)])], [(5, ()), (6, [(-1, 1)])]):
            with self.assertRaises(BadTime):
                Hours(1, [()], others)
        hours = Hours(7, WEEK)
        for refused in (lambda: hours.between(1, 0), lambda: hours.add(0, -1)):
            with self.assertRaises(BadTime):
                refused()

    def test_day_spans(self):
        self.assertEqual(day_spans([(5, 9), [0, 5], (DAY - 1, DAY)]), ((0, 9), (DAY - 1, DAY)))
        self.assertEqual((day_spans(()), day_spans([(0, DAY)])), ((), ((0, DAY),)))
        for spans in ([(0, DAY + 1)], [(-1, 0)], [(4, 4)], [(0, 9), (5, 2)], [(DAY, DAY + 1)]):
            with self.assertRaises(BadTime):
                day_spans(spans)


class WorkedPlansTest(unittest.TestCase):
    """Promises 8, 13, 14 and 19 together: plans on worked days, books of them, and hours that are open just then."""

    def test_plans_on_worked_days_fill_the_hours(self):
        for calendar in small_calendars() + [common()]:
            week = calendar.week
            works = Works(calendar, Is("weekday", range(0, week, 2)), Is("day", (0,)))
            rows = [OFFICE if calendar.weekday_of(day) % 2 == 0 else () for day in range(week)]
            off = [(day, ()) for day in range(-30, 60) if calendar.date(day)[2] == 0]
            hours = Hours(week, rows, off)
            book = Book()
            book.put("early", Plan(calendar, works.rule, 9 * HOUR, 3 * HOUR, Zone(0), -30, 60))
            book.put("late", Plan(calendar, works.rule, 13 * HOUR, 4 * HOUR, Zone(0), -30, 60))
            self.same(calendar, works, hours, book)
            # A day worked more, and one less.
            more = next(day for day in range(60) if not works.is_worked(day))
            less = works.add(0, 0)
            for plan in book.in_order():
                plan.add(more)
                plan.drop(less)
            changed = [row for row in off if row[0] not in (more, less)] + [(more, OFFICE), (less, ())]
            self.same(calendar, works, Hours(week, rows, changed), book)

    def same(self, calendar, works, hours, book):
        for low, high in ((-30, 60), (-5, 20)):
            busy = book.busy(low, high)
            self.assertEqual(sum(last - first for first, last in busy), hours.between(low * DAY, high * DAY))
            for first, last in busy:
                self.assertEqual((hours.next_shut(first), hours.is_open(last)), (last, False))
        for day in range(-30, 50):
            following, names = book.next(day)
            self.assertEqual(names, ("early", "late"))
            self.assertEqual(hours.next_open(day * DAY), book.here("early").span(following)[0])
            if book.here("late").ruled(day) and book.here("late").has(day):
                self.assertTrue(works.is_worked(day))
                self.assertEqual(works.rule.has(Day(calendar, day)), hours.in_day(day) == 7 * HOUR)
