"""Promise 17: days that suit several, turns that go round, shifts and their papers."""

import itertools
import random
import unittest

from recurwright.calendars import common
from recurwright.clashes import first_meeting, never_meet, same_days, within
from recurwright.counts import Counter
from recurwright.days import Day
from recurwright.errors import BadPaper, BadRule, BadSize, NoDay
from recurwright.meets import best_day, check_shifts, cost_of, shifts, soonest_for_all, turn_on, turns
from recurwright.rules import All, Any, Every, Is, Moved, Not, always, never
from tests.support import all_calendars, small_calendars, some_rule

COMMON = common()


class CostTest(unittest.TestCase):
    def test_costs(self):
        wishes = [(Is("weekday", (0,)), 5), (Is("day", (0, 1)), 2), (never(), 1)]
        told = [cost_of(COMMON, wishes, COMMON.number_of(2026, 10, day)) for day in (0, 1, 2, 8)]
        self.assertEqual(told, [6, 1, 8, 3])
        self.assertEqual((cost_of(COMMON, [], 5), cost_of(COMMON, (), -5)), (0, 0))
        self.assertEqual(best_day(COMMON, wishes, COMMON.number_of(2026, 10, 0), COMMON.number_of(2026, 10, 29)),
                         COMMON.number_of(2026, 10, 1))

    def test_no_wishes_and_days_as_cheap(self):
        self.assertEqual(best_day(COMMON, [], -7, 9), -7)
        self.assertEqual(best_day(COMMON, [(Every("days", 5, 3), 1)], 0, 20), 3)
        self.assertEqual(best_day(COMMON, [(Every("days", 5, 3), 1)], 4, 8), 4)
        self.assertEqual(best_day(COMMON, [(Every("days", 5, 3), 1)], 4, 9), 8)
        self.assertEqual(best_day(COMMON, [(Every("days", 2, 0), 3), (Every("days", 2, 1), 3)], 1, 9), 1)

    def test_as_going_through(self):
        draw = random.Random(17)
        for calendar in all_calendars():
            for _ in range(10):
                wishes = [(some_rule(draw, calendar, 2), draw.randrange(4)) for _ in range(draw.randrange(4))]
                first = draw.randrange(-30, 30)
                last = first + draw.randrange(1, 40)
                costs = []
                for number in range(first, last):
                    cost = 0
                    for rule, weight in wishes:
                        if not rule.has(Day(calendar, number)):
                            cost += weight
                    self.assertEqual(cost_of(calendar, wishes, number), cost)
                    costs.append(cost)
                self.assertEqual(best_day(calendar, wishes, first, last), first + costs.index(min(costs)))

    def test_refused(self):
        for first, last in ((5, 5), (5, 4)):
            with self.assertRaises(NoDay):
                best_day(COMMON, [(always(), 1)], first, last)


class ForAllTest(unittest.TestCase):
    def test_as_going_through(self):
        draw = random.Random(18)
        for calendar in small_calendars():
            for _ in range(15):
                rules = [some_rule(draw, calendar, 1) for _ in range(draw.randrange(3))]
                good = [number for number in range(-20, 300) if all(rule.has(Day(calendar, number)) for rule in rules)]
                if Counter(calendar, All(rules)).in_period() == 0:
                    self.assertEqual(good, [])
                    with self.assertRaises(NoDay):
                        soonest_for_all(calendar, rules, -20, 1)
                elif len(good) >= 3:
                    self.assertEqual(soonest_for_all(calendar, rules, -20, 3), tuple(good[:3]))

    def test_edges(self):
        self.assertEqual(soonest_for_all(COMMON, [], 5, 3), (5, 6, 7))
        self.assertEqual(soonest_for_all(COMMON, [Is("day", (0,))], 5, 0), ())
        friday = soonest_for_all(COMMON, (Is("day", (12,)), Is("weekday", (4,))), COMMON.number_of(2026, 10, 18), 2)
        self.assertEqual([COMMON.date(day) for day in friday], [(2027, 7, 12), (2028, 9, 12)])
        with self.assertRaises(NoDay):
            soonest_for_all(COMMON, [Is("day", (0,)), Is("day", (1,))], 0, 1)
        with self.assertRaises(BadRule):
            soonest_for_all(COMMON, [Every("days", 17, 0)], 0, 1)


class TurnsTest(unittest.TestCase):
    def test_go_round_by_the_count_of_the_days(self):
        for calendar in all_calendars():
            for rule in (always(), Every("days", 3, 1), Is("weekday", (0,)), Not(Is("day", (0,)))):
                counter = Counter(calendar, rule)
                days = counter.days_between(-40, 40)
                ahead = counter.ahead(-40)
                for people in (1, 2, 3):
                    told = {day: (ahead + place) % people for place, day in enumerate(days)}
                    for number in range(-40, 40):
                        self.assertEqual(turn_on(people, counter, number), told.get(number))
                    many = len(days) - 1
                    self.assertEqual(turns(people, counter, -40, many), tuple((day, told[day]) for day in days[:many]))
                    self.assertEqual(turns(people, counter, days[1], 1), ((days[1], told[days[1]]),))

    def test_first_day_from_nought_on_is_the_firsts(self):
        counter = Counter(COMMON, Is("weekday", (0,)))
        self.assertEqual(turns(3, counter, 0, 4), ((2, 0), (9, 1), (16, 2), (23, 0)))
        self.assertEqual(turns(3, counter, -6, 2), ((-5, 2), (2, 0)))
        self.assertEqual((turn_on(3, counter, 9), turn_on(3, counter, 10), turn_on(3, counter, -5)), (1, None, 2))
        self.assertEqual(turns(3, counter, 0, 0), ())

    def test_refused(self):
        counter = Counter(COMMON, never())
        for people in (0, -1):
            for each in (counter, Counter(COMMON, always())):
                with self.assertRaises(BadSize):
                    turns(people, each, 0, 1)
                with self.assertRaises(BadSize):
                    turn_on(people, each, 0)
        with self.assertRaises(NoDay):
            turns(2, counter, 0, 1)
        self.assertIsNone(turn_on(2, counter, 0))


def shifts_by_going(needs, people, most):
    """Each day's people, told by looking over all days ahead anew for each one taken; None where too few may come."""
    rows = []
    for need in needs:
        row = []
        for _ in range(need):
            good = []
            for one in range(people):
                on_end = 0
                while on_end < len(rows) and one in rows[-1 - on_end]:
                    on_end += 1
                if one not in row and on_end < most:
                    good.append((sum(1 for other in rows if one in other), one))
            if good == []:
                return None
            row.append(min(good)[1])
        rows.append(tuple(sorted(row)))
    return tuple(rows)


class ShiftsTest(unittest.TestCase):
    def test_known_shifts(self):
        self.assertEqual(shifts([2, 2, 2], 3, 9), ((0, 1), (0, 2), (1, 2)))
        self.assertEqual(shifts((1, 1, 1, 1), 2, 1), ((0,), (1,), (0,), (1,)))
        self.assertEqual(shifts([1, 1, 0, 1], 1, 2), ((0,), (0,), (), (0,)))
        self.assertEqual(shifts([2, 1, 2], 3, 1), ((0, 1), (2,), (0, 1)))

    def test_no_needs_and_nobody(self):
        self.assertEqual((shifts([], 3, 1), shifts([], 0, 1), shifts([0, 0], 0, 1)), ((), (), ((), ())))
        self.assertEqual((check_shifts([], [], 3, 1), check_shifts([0, 0], [(), []], 0, 1)), ((0, 0, 0), ()))
        with self.assertRaises(NoDay):
            shifts([1], 0, 1)

    def test_as_going_through(self):
        for people, most in itertools.product(range(4), (1, 2, 3)):
            for needs in itertools.product(range(3), repeat=4):
                wanted = shifts_by_going(needs, people, most)
                if wanted is None:
                    with self.assertRaises(NoDay):
                        shifts(needs, people, most)
                else:
                    rows = shifts(needs, people, most)
                    self.assertEqual(rows, wanted)
                    busy = tuple(sum(1 for row in rows if one in row) for one in range(people))
                    self.assertEqual(check_shifts(needs, rows, people, most), busy)

    def test_needs_that_cannot_be_met(self):
        for needs, people, most in (([4], 3, 9), ([1, 1, 1], 1, 2), ([2, 2], 3, 1)):
            with self.assertRaises(NoDay):
                shifts(needs, people, most)

    def test_bounds(self):
        for needs, people, most in (([1], -1, 1), ([1], 2, 0), ([1], 2, -1), ([1, -1], 2, 1), ([], -1, 1), ([], 1, 0)):
            with self.assertRaises(BadSize):
                shifts(needs, people, most)

    def test_papers(self):
        needs = [2, 1, 2]
        self.assertEqual(check_shifts(needs, [[2, 0], [1], [1, 0]], 3, 2), (2, 2, 1))
        self.assertEqual(check_shifts(tuple(needs), ((0, 1), (0,), (0, 2)), 3, 3), (3, 1, 1))
        for rows in ([(0, 1), (2,)], [(0, 1), (2,), (0, 1), ()], [(0, 1), (2,), (0,)], [(0, 1), (), (0, 1)],
                     [(0, 1), (1, 2), (0, 1)], [(0, 0), (2,), (0, 1)], [(0, 1), (3,), (0, 1)], [(0, 1), (-1,), (0, 1)],
                     [(0, 1), (1,), (0, 2)]):
            with self.assertRaises(BadPaper, msg=rows):
                check_shifts(needs, rows, 3, 1)
        self.assertEqual(check_shifts(needs, [(0, 1), (2,), (0, 1)], 3, 1), (2, 2, 1))
        with self.assertRaises(BadPaper):
            check_shifts([1, 1, 1], [(0,), (0,), (0,)], 1, 2)
        self.assertEqual(check_shifts([1, 1, 0, 1], [(0,), (0,), (), (0,)], 1, 2), (3,))


class RulesThatMustBeOneTest(unittest.TestCase):
    """Promises 5 and 7 together: rules that by their words must be one have the same days."""

    def test_rules_that_must_be_one(self):
        draw = random.Random(57)
        for calendar in small_calendars():
            for _ in range(6):
                one, other = some_rule(draw, calendar, 1), some_rule(draw, calendar, 1)
                many = draw.randrange(-5, 6)
                pairs = [
                    (Not(All((one, other))), Any((Not(one), Not(other)))), (Not(Not(one)), one),
                    (Moved(Moved(one, many), -many), one), (All((one, always())), one), (Any((one, never())), one),
                    (Moved(Any((one, other)), many), Any((Moved(one, many), Moved(other, many)))),
                    (Not(Moved(one, many)), Moved(Not(one), many)), (All((one, Not(one))), never()),
                ]
                for left, right in pairs:
                    self.assertTrue(same_days(calendar, left, right))
                self.assertTrue(within(calendar, All((one, other)), one))
                self.assertTrue(never_meet(calendar, All((one, Not(other))), other))
                if not never_meet(calendar, one, other):
                    self.assertEqual(first_meeting(calendar, one, other, -9),
                                     soonest_for_all(calendar, (one, other), -9, 1)[0])
