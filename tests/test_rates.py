"""Promise 29: what time costs."""

import random
import unittest
from fractions import Fraction

from recurwright.calendars import Calendar, common
from recurwright.clocks import DAY
from recurwright.days import Day
from recurwright.errors import BadRule, BadTime
from recurwright.rates import Rates, cheapest
from recurwright.rules import Every, Is, always, never
from tests.support import small_calendars, some_rule

COMMON = common()
HOUR = 3600
STEP = 4 * HOUR
WORK = Is("weekday", range(5))
FEAST = Is("year day", (0,))


def known():
    lines = [(FEAST, [(0, DAY, 9)]), (WORK, ((8 * HOUR, 12 * HOUR, 3), (12 * HOUR, 18 * HOUR, 2)))]
    return Rates(COMMON, lines, 1)


def some_rates(draw, calendar):
    """Rates whose spans begin and end on steps."""
    lines = []
    for _ in range(draw.randrange(4)):
        edges = sorted(draw.sample(range(0, DAY + 1, STEP), draw.choice([0, 2, 4])))
        spans = [(edges[k], edges[k + 1], draw.randrange(4)) for k in range(0, len(edges), 2)]
        lines.append((some_rule(draw, calendar, 1), spans))
    return Rates(calendar, lines, draw.randrange(3))


def rates_of_steps(rates, low, high):
    """What a second costs from each step of the days on, told by going through lines and spans."""
    found = {}
    for number in range(low, high):
        good = [spans for rule, spans in rates.lines if rule.has(Day(rates.calendar, number))]
        for second in range(0, DAY, STEP):
            inside = [rate for first, last, rate in (good[0] if good else ()) if first <= second < last]
            found[number * DAY + second] = inside[0] if inside else rates.other
    return found


class KnownTest(unittest.TestCase):
    def test_fields(self):
        rates = known()
        self.assertEqual((rates.other, [spans for rule, spans in rates.lines]),
                         (1, [((0, DAY, 9),), ((8 * HOUR, 12 * HOUR, 3), (12 * HOUR, 18 * HOUR, 2))]))
        self.assertIs(rates.calendar, COMMON)
        self.assertIs(rates.lines[1][0], WORK)
        self.assertEqual((type(rates.lines), len(rates.counters)), (tuple, 2))

    def test_lines_and_rates(self):
        rates = known()
        monday = COMMON.number_of(2026, 10, 22)
        self.assertEqual([rates.line(monday + k) for k in (0, 4, 5, 6, 7)], [1, 1, None, None, 1])
        # The first of the year is a thursday: the line ahead has it.
        self.assertEqual(rates.line(COMMON.first_of(2026)), 0)
        told = [rates.rate(monday * DAY + second) for second in (0, 8 * HOUR - 1, 8 * HOUR, 12 * HOUR - 1, 12 * HOUR, 18 * HOUR)]
        self.assertEqual(told, [1, 1, 3, 3, 2, 1])
        self.assertEqual(rates.rate((monday - 1) * DAY + 9 * HOUR), 1)
        self.assertEqual(rates.rate(COMMON.first_of(2026) * DAY + 9 * HOUR), 9)

    def test_costs(self):
        rates = known()
        monday = COMMON.number_of(2026, 10, 22)
        work = (14 + 4 * 3 + 6 * 2) * HOUR
        self.assertEqual([rates.day_cost(place) for place in (0, 1, None)], [9 * DAY, work, DAY])
        self.assertEqual([rates.part_cost(monday, second * HOUR) for second in (0, 8, 9, 13, 24)],
                         [0, 8 * HOUR, 11 * HOUR, 22 * HOUR, work])
        self.assertEqual(rates.cost(monday * DAY, (monday + 7) * DAY), 5 * work + 2 * DAY)
        self.assertEqual(rates.cost(monday * DAY + 9 * HOUR, (monday + 1) * DAY), work - 11 * HOUR)
        self.assertEqual((rates.cost(5, 5), rates.ahead(0)), (0, 0))
        # Day nought is a year's first, the one ahead of it a friday.
        self.assertEqual((rates.ahead(10), rates.ahead(-DAY)), (90, -work))

    def test_no_lines(self):
        rates = Rates(COMMON, (), 2)
        self.assertEqual((rates.line(5), rates.rate(5), rates.ahead(-7), rates.cost(-7, 8)), (None, 2, -14, 30))
        self.assertEqual((rates.day_cost(None), rates.part_cost(9, 11), rates.mean(), rates.until(5, 7)), (2 * DAY, 22, (2 * DAY, 1), 9))
        bare = Rates(COMMON, [(WORK, ())], 2)
        self.assertEqual((bare.line(2), bare.rate(2 * DAY), bare.day_cost(0), bare.mean()), (0, 2, 2 * DAY, (2 * DAY, 1)))

    def test_mean(self):
        rates = known()
        work = (14 + 4 * 3 + 6 * 2) * HOUR
        days = COMMON.cycle_days()
        feasts = 400
        worked = [day for day in range(days) if rates.line(day) == 1]
        top, low = rates.mean()
        wanted = Fraction(feasts * 9 * DAY + len(worked) * work + (days - feasts - len(worked)) * DAY, days)
        self.assertEqual(Fraction(top, low), wanted)
        self.assertEqual((top, low), (wanted.numerator, wanted.denominator))
        self.assertEqual(Rates(COMMON, [(WORK, [(0, DAY, 7)])], 0).mean(), (5 * DAY, 1))
        self.assertEqual(Rates(COMMON, [(WORK, [(0, 1, 1)])], 0).mean(), (5, 7))
        self.assertEqual(Rates(COMMON, [(never(), [(0, DAY, 7)])], 0).mean(), (0, 1))

    def test_until(self):
        rates = known()
        monday = COMMON.number_of(2026, 10, 22) * DAY
        self.assertEqual([rates.until(monday + 8 * HOUR, much) for much in (0, 1, 3, 4, 3 * HOUR, 4 * 3 * HOUR + 1)],
                         [monday + 8 * HOUR + more for more in (0, 1, 1, 2, HOUR, 4 * HOUR + 1)])
        self.assertEqual(rates.until(monday, rates.cost(monday, monday + 10 ** 9)), monday + 10 ** 9)
        free = Rates(COMMON, [(WORK, [(0, DAY, 0)])], 5)
        self.assertEqual(free.until(monday, 1), monday + 5 * DAY + 1)
        self.assertEqual(free.until(monday, 0), monday)
        for never_spent in (Rates(COMMON, (), 0), Rates(COMMON, [(never(), [(0, DAY, 9)])], 0), Rates(COMMON, [(always(), [(0, DAY, 0)])], 0),
                            Rates(COMMON, [(always(), [(0, DAY, 0)]), (WORK, [(0, DAY, 9)])], 7)):
            self.assertEqual((never_spent.until(5, 1), never_spent.until(-5, 0), never_spent.until(5, 10 ** 12)), (None, -5, None))
        rare = Rates(Calendar((5,), 0, 7, (3,), 3), [(Is("day", (5,)), [(70, 72, 4)])], 0)
        self.assertEqual([rare.until(0, much) for much in (1, 4, 5, 8, 9)], [20 * DAY + more for more in (71, 71, 72, 72, 36 * DAY + 71)])

    def test_refused(self):
        for spans in ([(5, 5, 1)], [(6, 5, 1)], [(-1, 5, 1)], [(0, DAY + 1, 1)], [(0, 5, 1), (4, 9, 1)], [(5, 9, 1), (0, 5, 1)],
                      [(0, 9, 1), (3, 4, 1)], [(0, 5, -1), (4, 9, 1)]):
            with self.assertRaises(BadTime):
                Rates(COMMON, [(WORK, [(1, 2, 3)]), (WORK, spans)], 1)
        # Spans may touch.
        Rates(COMMON, [(WORK, [(0, 5, 1), (5, 9, 1), (9, DAY, 0)])], 1)
        for lines, other in (([], -1), ([(WORK, [(0, 5, -1)])], 1), ([(WORK, [(0, 5, 1)]), (WORK, [(0, 5, 1), (7, 9, -2)])], 0)):
            with self.assertRaises(BadRule):
                Rates(COMMON, lines, other)
        with self.assertRaises(BadRule):
            Rates(COMMON, [(Every("years", 7001, 0), ())], 0)
        rates = known()
        for error, refused in ((BadTime, lambda: rates.cost(1, 0)), (BadRule, lambda: rates.until(0, -1)),
                               (BadTime, lambda: cheapest(rates, 0, 9, 0, 1)), (BadTime, lambda: cheapest(rates, 0, 9, 1, 0)),
                               (BadTime, lambda: cheapest(rates, 0, 9, 10, 1)), (BadTime, lambda: cheapest(rates, 9, 0, 1, 1))):
            with self.assertRaises(error):
                refused()


class AllTest(unittest.TestCase):
    def test_as_going_through_seconds(self):
        draw = random.Random(29)
        for calendar in small_calendars():
            for _ in range(6):
                rates = some_rates(draw, calendar)
                steps = rates_of_steps(rates, -12, 20)
                ahead = -sum(steps[time] * STEP for time in steps if time < 0)
                for time in steps:
                    self.assertEqual((rates.rate(time), rates.rate(time + STEP - 1)), (steps[time], steps[time]))
                    self.assertEqual(rates.ahead(time), ahead)
                    self.assertEqual(rates.cost(time, time + 77), 77 * steps[time])
                    ahead += STEP * steps[time]
                for number in range(-12, 20):
                    day = sum(steps[number * DAY + second] * STEP for second in range(0, DAY, STEP))
                    self.assertEqual(rates.day_cost(rates.line(number)), day)
                    self.assertEqual((rates.part_cost(number, DAY), rates.cost(number * DAY, (number + 1) * DAY)), (day, day))
                self.same_until(rates, steps, draw)
                days = calendar.first_of(calendar.cycle * calendar.week * 12)
                if (days // calendar.cycle_days()) % (12 * calendar.week) == 0:
                    self.assertEqual(Fraction(*rates.mean()), Fraction(rates.ahead(days * DAY), days))

    def same_until(self, rates, steps, draw):
        for _ in range(15):
            first = draw.randrange(-12 * DAY, 10 * DAY)
            much = draw.randrange(1, 6 * DAY)
            spent, time = 0, first
            while time < 20 * DAY and spent < much:
                rate = steps[time // STEP * STEP]
                behind = (time // STEP + 1) * STEP
                if spent + rate * (behind - time) >= much:
                    time += -(-(much - spent) // rate)
                    spent = much
                else:
                    spent += rate * (behind - time)
                    time = behind
            if spent == much:
                self.assertEqual(rates.until(first, much), time)
            elif rates.until(first, much) is None:
                self.assertEqual(rates.mean()[0], 0)
            else:
                self.assertGreater(rates.until(first, much), time)

    def test_far_without_going_through(self):
        rates = known()
        far = COMMON.cycle_days() * 10 ** 6
        top, low = rates.mean()
        self.assertEqual(rates.ahead(far * DAY) * low, top * far)
        self.assertEqual(rates.ahead(-far * DAY) * low, -top * far)
        self.assertEqual(rates.ahead(rates.until(0, 10 ** 18)) >= 10 ** 18, True)


class CheapestTest(unittest.TestCase):
    def test_known(self):
        rates = known()
        friday = COMMON.number_of(2026, 10, 19) * DAY
        self.assertEqual(cheapest(rates, friday + 9 * HOUR, friday + DAY, 2 * HOUR, 1), friday + 18 * HOUR)
        self.assertEqual(cheapest(rates, friday + 9 * HOUR, friday + 18 * HOUR, 2 * HOUR, 1), friday + 12 * HOUR)
        self.assertEqual(cheapest(rates, friday + 9 * HOUR, friday + 18 * HOUR, 2 * HOUR, 2 * HOUR), friday + 13 * HOUR)
        # The first of times as cheap.
        self.assertEqual(cheapest(rates, friday - 3 * DAY, friday + 2 * DAY, HOUR, 60), friday - 3 * DAY)
        self.assertEqual(cheapest(rates, friday, friday + 9 * HOUR, 9 * HOUR, 5), friday)
        self.assertEqual(cheapest(rates, friday, friday + 9 * DAY, HOUR, 10 ** 9), friday)
        # A second alone, and a length that just has room.
        self.assertEqual(cheapest(rates, friday + 17 * HOUR, friday + 18 * HOUR + 1, 1, 1), friday + 18 * HOUR)
        self.assertEqual(cheapest(rates, friday, friday + 1, 1, 1), friday)

    def test_as_going_through_starts(self):
        draw = random.Random(30)
        for calendar in small_calendars():
            for _ in range(4):
                rates = some_rates(draw, calendar)
                for _ in range(6):
                    first = draw.randrange(-5 * DAY, 5 * DAY)
                    last = first + draw.randrange(1, 6 * DAY)
                    length = draw.randrange(1, min(2 * DAY, last - first) + 1)
                    step = draw.choice([701, 3600, 5000, STEP, DAY - 1, DAY, DAY + 7])
                    starts = range(first, last - length + 1, step)
                    wanted = min(starts, key=lambda time: rates.cost(time, time + length))
                    self.assertEqual(cheapest(rates, first, last, length, step), wanted)
