"""Promise 7: rules that meet, the same, within, longest gaps."""

import random
import unittest

from recurwright.calendars import common
from recurwright.clashes import both_rules, covers_all, first_meeting, first_unlike, gaps, longest_gap, never_meet
from recurwright.clashes import pairs, same_days, within
from recurwright.counts import Counter
from recurwright.days import Day
from recurwright.errors import BadRule, NoDay
from recurwright.rules import All, Any, Every, Is, Moved, Not, Pick, always, never
from tests.support import small_calendars, some_rule

COMMON = common()


def first_where(calendar, counter, test, number):
    """The first day from one on, within a period, for which a test holds, None for none."""
    for day in range(number, number + calendar.first_of(counter.period)):
        if test(Day(calendar, day)):
            return day
    return None


class ClashTest(unittest.TestCase):
    def test_as_going_through_a_period(self):
        for calendar in small_calendars():
            draw = random.Random(23)
            for _ in range(15):
                one, other = some_rule(draw, calendar, 2), some_rule(draw, calendar, 2)
                counter = both_rules(calendar, one, other)
                start = draw.randrange(-60, 60)
                meet = first_where(calendar, counter, lambda day: one.has(day) and other.has(day), start)
                unlike = first_where(calendar, counter, lambda day: one.has(day) != other.has(day), start)
                alone = first_where(calendar, counter, lambda day: one.has(day) and not other.has(day), start)
                bare = first_where(calendar, counter, lambda day: not one.has(day) and not other.has(day), start)
                self.assertEqual(never_meet(calendar, one, other), meet is None)
                self.assertEqual(first_unlike(calendar, one, other, start), unlike)
                self.assertEqual(same_days(calendar, one, other), unlike is None)
                self.assertEqual(within(calendar, one, other), alone is None)
                self.assertEqual(covers_all(calendar, [one, other]), bare is None)
                if meet is not None:
                    self.assertEqual(first_meeting(calendar, one, other, start), meet)
                else:
                    with self.assertRaises(NoDay):
                        first_meeting(calendar, one, other, start)

    def test_common_calendar(self):
        fridays, thirteenths = Is("weekday", (4,)), Is("day", (12,))
        self.assertEqual(both_rules(COMMON, fridays, thirteenths).in_period(), 688)
        self.assertFalse(never_meet(COMMON, Is("day", (28,)), Is("month", (1,))))
        self.assertTrue(never_meet(COMMON, Is("day", (29,)), Is("month", (1,))))
        self.assertTrue(never_meet(COMMON, Every("days", 4, 1), Every("days", 6, 4)))
        self.assertTrue(never_meet(COMMON, always(), never()))
        leap = All((Is("month", (1,)), Is("day", (28,))))
        meeting = first_meeting(COMMON, leap, Is("weekday", (0,)), COMMON.first_of(2026))
        self.assertEqual(COMMON.date(meeting), (2044, 1, 28))
        self.assertTrue(same_days(COMMON, Is("back", (0,)), Pick(always(), "month", (-1,))))
        self.assertTrue(same_days(COMMON, Moved(Is("back", (0,)), 1), Is("day", (0,))))
        self.assertFalse(same_days(COMMON, Is("day", (0,)), Is("day", (0, 30))))
        self.assertTrue(within(COMMON, Is("day", (0,)), Is("day", (0, 30))))
        self.assertFalse(within(COMMON, Is("day", (0, 30)), Is("day", (0,))))
        self.assertTrue(within(COMMON, never(), never()))
        self.assertTrue(covers_all(COMMON, [Is("weekday", (0, 1, 2)), Not(Is("weekday", (1, 2)))]))
        self.assertFalse(covers_all(COMMON, [Is("back", (0,)), Is("day", tuple(range(30)))][1:]))
        self.assertTrue(covers_all(COMMON, [always()]))
        self.assertFalse(covers_all(COMMON, []))
        unlike = first_unlike(COMMON, Is("nth", (4,)), All((Is("nth", (4,)), Is("nth back", (0,)))), 0)
        self.assertIsNone(unlike)

    def test_longest_gap(self):
        leap = All((Is("month", (1,)), Is("day", (28,))))
        self.assertEqual(longest_gap(Counter(COMMON, leap)), (2921, COMMON.number_of(96, 1, 28)))
        self.assertEqual(longest_gap(Counter(COMMON, always())), (1, 0))
        self.assertEqual(longest_gap(Counter(COMMON, Is("weekday", (0,)))), (7, 2))
        wide = Every("years", 400, 399)
        first = COMMON.first_of(399) + 364
        self.assertEqual(longest_gap(Counter(COMMON, wide)), (146097 - 364, first))

    def test_gaps_as_going_through(self):
        for calendar in small_calendars():
            draw = random.Random(31)
            for _ in range(25):
                counter = Counter(calendar, some_rule(draw, calendar, 2))
                many = counter.in_period()
                if many == 0:
                    for refused in (longest_gap, gaps):
                        with self.assertRaises(NoDay):
                            refused(counter)
                    continue
                sizes = [counter.at(place + 1) - counter.at(place) for place in range(many)]
                most = max(sizes)
                self.assertEqual(longest_gap(counter), (most, counter.at(sizes.index(most))))
                self.assertEqual(gaps(counter), {size: sizes.count(size) for size in sizes})
                self.assertEqual(sum(size * often for size, often in gaps(counter).items()),
                                 calendar.first_of(counter.period))

    def test_pairs(self):
        rules = [Is("weekday", (0,)), Is("day", (3,)), Is("weekday", (1,)), never(), Is("weekday", (0, 1))]
        self.assertEqual(pairs(COMMON, rules), ((0, 1), (0, 4), (1, 2), (1, 4), (2, 4)))
        self.assertEqual(pairs(COMMON, []), ())
        self.assertEqual(pairs(COMMON, rules[:1]), ())

    def test_refused(self):
        late, later = Every("years", 7, 0), Any((Every("years", 11, 0),))
        for refused in (both_rules, never_meet, same_days, within):
            with self.assertRaises(BadRule):
                refused(COMMON, late, later)
        for refused in (first_meeting, first_unlike):
            with self.assertRaises(BadRule):
                refused(COMMON, late, later, 0)
        for refused in (covers_all, pairs):
            with self.assertRaises(BadRule):
                refused(COMMON, [late, later])
