"""Promise 6: counts, periods, kinds of years and papers; and of promise 26, a counter's period."""

import random
import unittest

from recurwright.calendars import Calendar, common
from recurwright.counts import MOST, Counter, away_of, check_papers, period_of, shared, sign_of
from recurwright.days import Day
from recurwright.errors import BadPaper, BadRule, BadSize, NoDay
from recurwright.rules import All, Any, Every, Is, Moved, Not, Pick, always, never
from tests.support import small_calendars, some_rule

COMMON = common()
MONDAYS = Is("weekday", (0,))
WORKED = Is("weekday", (0, 1, 2, 3, 4))


def days_of(calendar, rule, first, last):
    return [number for number in range(first, last) if rule.has(Day(calendar, number))]


class PeriodTest(unittest.TestCase):
    def test_shared(self):
        self.assertEqual([shared(12, 18), shared(18, 12), shared(7, 5), shared(4, 4), shared(1, 9)], [6, 6, 1, 4, 1])
        self.assertEqual([shared(0, 5), shared(5, 0), shared(-12, 18), shared(12, -18)], [5, 5, 6, 6])

    def test_periods(self):
        self.assertEqual(MOST, 6000)
        self.assertEqual(period_of(COMMON, MONDAYS), 400)
        self.assertEqual(period_of(COMMON, Every("days", 2, 0)), 800)
        self.assertEqual(period_of(COMMON, Every("days", 146097, 0)), 400)
        self.assertEqual(period_of(COMMON, Every("weeks", 13, 0)), 5200)
        self.assertEqual(period_of(COMMON, Every("months", 9, 0)), 1200)
        self.assertEqual(period_of(COMMON, Every("years", 15, 0)), 1200)
        self.assertEqual(period_of(COMMON, All((Every("years", 3, 0), Not(Every("months", 10, 0))))), 1200)
        self.assertEqual(period_of(Calendar((5,), 0, 1, (), 7), always()), 7)
        self.assertEqual(period_of(Calendar((5,), 0, 6000, (), 1), always()), 6000)

    def test_periods_past_the_most(self):
        for rule in (Every("days", 17, 0), Every("weeks", 11 * 2, 0), Every("years", 17, 0), Every("days", 10 ** 9, 0),
                     Any((Every("days", 5, 0), Pick(Moved(Every("days", 4, 0), 1), "year", (0,))))):
            for refused in (period_of, Counter):
                with self.assertRaises(BadRule):
                    refused(COMMON, rule)
        with self.assertRaises(BadRule):
            check_papers(COMMON, Every("days", 17, 0), (6800, {}))
        with self.assertRaises(BadRule):
            period_of(Calendar((5,), 0, 6001, (), 1), always())

    def test_period_is_the_least(self):
        for calendar in small_calendars():
            for unit in ("days", "weeks", "months", "years"):
                for count in (1, 2, 3, 4, 6):
                    rule = Every(unit, count, 1)
                    period = period_of(calendar, rule)
                    good = []
                    for years in range(calendar.cycle, period + 1, calendar.cycle):
                        days = calendar.first_of(years)
                        counted = {"days": days, "weeks": days // calendar.week,
                                   "months": years * len(calendar.months), "years": years}[unit]
                        if days % calendar.week == 0 and counted % count == 0:
                            good.append(years)
                    self.assertEqual(good, [period])

    def test_away(self):
        self.assertEqual(away_of(COMMON, MONDAYS), 0)
        self.assertEqual(away_of(COMMON, Moved(MONDAYS, -1)), 1)
        self.assertEqual(away_of(COMMON, Moved(MONDAYS, 365)), 1)
        self.assertEqual(away_of(COMMON, Moved(MONDAYS, 366)), 2)
        self.assertEqual(away_of(COMMON, Pick(MONDAYS, "year", (0,))), 0)
        self.assertEqual(away_of(COMMON, Moved(Pick(MONDAYS, "month", (0,)), 1)), 1)
        self.assertEqual(away_of(Calendar((5,), 0, 2, (0, 1), 7), Moved(MONDAYS, 12)), 2)

    def test_signs_tell_years_apart_and_alike(self):
        counted = All((Every("days", 3, 0), Every("months", 5, 0)))
        for rule in (MONDAYS, Moved(MONDAYS, 2), counted):
            places = {}
            for year in range(-900, 900):
                sign = sign_of(COMMON, rule, year)
                self.assertIsInstance(sign, tuple)
                self.assertTrue(all(type(part) is int for part in sign))
                first = COMMON.first_of(year)
                good = [day - first for day in days_of(COMMON, rule, first, first + 40)]
                self.assertEqual(places.setdefault(sign, good), good)
        self.assertEqual(len(Counter(COMMON, MONDAYS).kinds), 14)


class CounterTest(unittest.TestCase):
    def same_as_going_through(self, calendar, rule, low, high):
        counter = Counter(calendar, rule)
        days = days_of(calendar, rule, low, high)
        ahead = -len([day for day in days if day < 0])
        for number in range(low, high):
            self.assertEqual(counter.ahead(number), ahead, (rule.shown(), number))
            ahead += 1 if number in days else 0
        start = counter.ahead(low)
        self.assertEqual([counter.at(start + place) for place in range(len(days))], days)
        self.assertEqual(counter.days_between(low, high), tuple(days))
        for number in range(low, high, 7):
            on = [day for day in days if day >= number]
            back = [day for day in days if day < number]
            self.assertEqual(counter.between(low, number), len(back))
            self.assertEqual([counter.nth(number, many) for many in range(len(on))], on)
            self.assertEqual([counter.nth(number, many) for many in range(-len(back), 0)], back)
            if on != []:
                self.assertEqual(counter.next(number), on[0])
            if back != []:
                self.assertEqual(counter.last_ahead(number), back[-1])

    def test_small_calendars(self):
        for calendar in small_calendars():
            draw = random.Random(11)
            for _ in range(40):
                self.same_as_going_through(calendar, some_rule(draw, calendar, 3), -90, 90)

    def test_common_calendar(self):
        for rule in (
            MONDAYS, always(), never(), Is("year back", (0,)), Every("years", 3, 1), Moved(Is("year day", (0,)), -400),
            Pick(WORKED, "month", (-1, 0)), Pick(Moved(WORKED, 3), "year", (0, 100)),
            Moved(Pick(Moved(MONDAYS, 1), "year", (0,)), 1), All((Is("day", (12,)), Is("weekday", (4,)))),
        ):
            self.same_as_going_through(COMMON, rule, -900, 900)

    def test_pick_of_moved_days_hangs_on_years_further_off(self):
        # Each rule has a year's first day just where the second year ahead of it is long.
        calendar = Calendar((2, 3, 4), 2, 9, (0, 1, 4), 5, 1)
        behind_long = Moved(Is("year day", (9,)), 1)
        ends = Any((behind_long, Is("year day", (1,)), Is("year back", (0,))))
        rule = Moved(Pick(ends, "year", (2,)), 1)
        self.same_as_going_through(calendar, rule, -400, 400)
        self.assertEqual([year for year in range(9) if Counter(calendar, rule).places_in(year) == (0,)], [2, 3, 6])
        calendar = Calendar((1, 9), 1, 9, (0, 1, 4), 5, 1)
        behind_long = Moved(Is("year day", (10,)), 2)
        ends = Any((behind_long, Is("year day", (2,)), Is("year back", (0,))))
        rule = Moved(Pick(ends, "month", (2,)), 1)
        self.same_as_going_through(calendar, rule, -400, 400)
        self.assertEqual([year for year in range(9) if Counter(calendar, rule).places_in(year) == (0,)], [2, 3, 6])

    def test_far_by_whole_periods(self):
        for calendar, rule in ((COMMON, Pick(WORKED, "month", (-1,))), (small_calendars()[1], Every("weeks", 3, 1))):
            counter = Counter(calendar, rule)
            days = calendar.first_of(counter.period)
            for times in (10 ** 8, -(10 ** 8), 1, -1):
                for number in (-50, 0, 99):
                    far = number + times * days
                    self.assertEqual(counter.ahead(far), counter.ahead(number) + times * counter.in_period())
                    self.assertEqual(counter.next(far), counter.next(number) + times * days)
                    self.assertEqual(counter.nth(number, times * counter.in_period() + 3),
                                     counter.nth(number, 3) + times * days)

    def test_known_days(self):
        fridays = Counter(COMMON, All((Is("day", (12,)), Is("weekday", (4,)))))
        self.assertEqual(fridays.in_period(), 688)
        self.assertEqual(COMMON.date(fridays.next(COMMON.number_of(2026, 10, 18))), (2027, 7, 12))
        self.assertEqual(COMMON.date(fridays.last_ahead(COMMON.number_of(2026, 10, 18))), (2026, 10, 12))

    def test_years(self):
        counter = Counter(COMMON, Is("month", (1,)))
        self.assertEqual(counter.places_in(2024), tuple(range(31, 60)))
        self.assertEqual(counter.places_in(-1), tuple(range(31, 59)))
        self.assertEqual([counter.ahead_of_year(year) for year in (-1, 0, 1, 2, 400)], [-28, 0, 29, 57, 11297])
        self.assertEqual((counter.period, counter.in_period()), (400, 11297))
        self.assertIsInstance(counter.kinds, dict)
        self.assertIsInstance(counter.signs, list)
        self.assertIsInstance(counter.sums, list)
        self.assertIs(counter.calendar, COMMON)
        self.assertEqual(counter.rule.shown(), ("is", "month", (1,)))

    def test_refused(self):
        counter = Counter(COMMON, never())
        self.assertEqual((counter.ahead(500), counter.in_period(), counter.days_between(-5, 5)), (0, 0, ()))
        for refused in (counter.at, counter.next, counter.last_ahead):
            with self.assertRaises(NoDay):
                refused(0)
        with self.assertRaises(NoDay):
            counter.nth(0, 5)
        for refused in (Counter(COMMON, always()).between, counter.days_between):
            self.assertIn(refused(4, 4), (0, ()))
            with self.assertRaises(BadSize):
                refused(5, 4)


class PaperTest(unittest.TestCase):
    def test_taken(self):
        for calendar in [COMMON] + small_calendars():
            for rule in (MONDAYS, never(), Every("months", 2, 1), Moved(Is("month", (0,)), 4)):
                counter = Counter(calendar, rule)
                period, kinds = counter.papers()
                self.assertEqual(period, counter.period)
                self.assertTrue(all(type(places) is tuple for places in kinds.values()))
                self.assertEqual(check_papers(calendar, rule, (period, kinds)), counter.in_period())
                self.assertEqual(check_papers(calendar, rule, [period * 2, kinds]), counter.in_period() * 2)
                lists = {kind: list(places) for kind, places in kinds.items()}
                self.assertEqual(check_papers(calendar, rule, (period, lists)), counter.in_period())

    def test_period_of_one_year(self):
        calendar = Calendar((5,), 0, 1, (), 1)
        self.assertEqual(Counter(calendar, MONDAYS).papers()[0], 1)
        self.assertEqual(check_papers(calendar, MONDAYS, Counter(calendar, MONDAYS).papers()), 5)

    def test_papers_are_the_takers_own(self):
        counter = Counter(COMMON, MONDAYS)
        counter.papers()[1].clear()
        self.assertEqual(check_papers(COMMON, MONDAYS, counter.papers()), 20871)

    def test_refused(self):
        calendar = small_calendars()[1]
        rule = Every("days", 4, 1)
        period, kinds = Counter(calendar, rule).papers()
        for wrong in (0, -period, period - 1, period + 1, calendar.cycle):
            with self.assertRaises(BadPaper):
                check_papers(calendar, rule, (wrong, kinds))
        for kind, places in kinds.items():
            untold = {other: kinds[other] for other in kinds if other != kind}
            with self.assertRaises(BadPaper):
                check_papers(calendar, rule, (period, untold))
            for other in (places[1:], places[:-1], places + (99,), places + places[-1:], places[::-1], ()):
                if other != places:
                    with self.assertRaises(BadPaper):
                        check_papers(calendar, rule, (period, {**kinds, kind: other}))
        for other in (Every("days", 4, 0), Not(Is("day", (0,))), never()):
            with self.assertRaises(BadPaper):
                check_papers(calendar, other, (period, kinds))
