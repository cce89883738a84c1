"""Promise 20: times of five words, those ahead, next, last and between, words read and told."""

import random
import unittest
from bisect import bisect_left

from recurwright.calendars import Calendar, common
from recurwright.clocks import DAY
from recurwright.crons import Cron, first_of_all, number_of, numbers_of, told_numbers
from recurwright.errors import BadRule, BadText, NoDay
from tests.support import Table, small_calendars

COMMON = common()
HOUR = 3600


class WordsTest(unittest.TestCase):
    def test_numbers_of(self):
        told = {
            "*": tuple(range(3, 15)), "3": (3,), "14": (14,), "07": (7,), "5-8": (5, 6, 7, 8), "5-5": (5,),
            "*/5": (3, 8, 13), "*/99": (3,), "4-9/2": (4, 6, 8), "4-8/4": (4, 8), "6/3": (6, 9, 12), "14/1": (14,),
            "9,3,7": (3, 7, 9), "4,4,3-5": (3, 4, 5), "*/6,12/2,5": (3, 5, 9, 12, 14), "10/1": (10, 11, 12, 13, 14),
        }
        for word, numbers in told.items():
            self.assertEqual(numbers_of(word, 3, 14), numbers, word)

    def test_words_refused(self):
        for word in ("", ",", "3,", ",3", "2", "15", "*-5", "5-*", "8-5", "2-5", "5-15", "*/0", "5/0", "5-8/0", "*/", "/5",
                     "5/", "5-", "-5", "5-6-7", "5/2/2", "**", "* ", " 5", "5 6", "003", "100", "*/100", "5.", "a", "+5", "-",
                     "5--6", "\u0665", "3;4", "14-3", "5-8/*", "5-100"):
            with self.assertRaises(BadText, msg=word):
                numbers_of(word, 3, 14)

    def test_number_of(self):
        for word, number in (("0", 0), ("00", 0), ("9", 9), ("09", 9), ("99", 99)):
            self.assertEqual(number_of(word), number)
        for word in ("", "100", "000", "-1", "+1", "1 ", "a", "1a", "\u0661", "*"):
            with self.assertRaises(BadText):
                number_of(word)

    def test_told_numbers(self):
        for numbers, word in (((3,), "3"), ((3, 4), "3,4"), ((3, 4, 5), "3-5"), ((3, 5, 6, 7, 9, 10), "3,5-7,9,10"),
                              (range(3, 15), "*"), (range(3, 14), "3-13"), ((12, 13, 14), "12-14"), ((4, 6, 8), "4,6,8")):
            self.assertEqual(told_numbers(tuple(numbers), 3, 14), word)
            self.assertEqual(told_numbers(list(numbers), 3, 14), word)
        self.assertEqual((told_numbers((0,), 0, 0), told_numbers((0, 1), 0, 1), told_numbers((), 0, 1)), ("*", "*", ""))

    def test_told_and_read_again(self):
        draw = random.Random(1)
        for _ in range(300):
            low = draw.randrange(20)
            high = low + draw.randrange(60)
            numbers = tuple(sorted(draw.sample(range(low, high + 1), draw.randrange(1, high - low + 2))))
            self.assertEqual(numbers_of(told_numbers(numbers, low, high), low, high), numbers)


class CronTest(unittest.TestCase):
    def test_known_times(self):
        cron = Cron(COMMON, "30,0 9-17/4 * * 0-4")
        self.assertEqual((cron.minutes, cron.hours), ((0, 30), (9, 13, 17)))
        self.assertEqual(cron.of_day(), (32400, 34200, 46800, 48600, 61200, 63000))
        start = COMMON.number_of(2026, 10, 19)
        self.assertEqual(cron.next(start * DAY + 63000), start * DAY + 63000)
        self.assertEqual(cron.next(start * DAY + 63001), (start + 3) * DAY + 32400)
        self.assertEqual(cron.last_ahead((start + 3) * DAY + 32400), start * DAY + 63000)
        self.assertEqual(cron.between((start - 4) * DAY, (start + 3) * DAY), 30)
        self.assertEqual(cron.between(start * DAY + 32400, start * DAY + 34200), 1)
        leap = Cron(COMMON, "0 0 29 2 *")
        self.assertEqual(COMMON.date(leap.next(COMMON.number_of(2096, 2, 0) * DAY) // DAY), (2104, 1, 28))

    def test_all_three_must_be(self):
        cron = Cron(COMMON, "0 12 13 * 4")
        first = cron.next(COMMON.number_of(2026, 0, 0) * DAY)
        self.assertEqual(COMMON.date(first // DAY), (2026, 1, 12))
        self.assertFalse(cron.has(first + DAY))
        self.assertFalse(cron.has(first + 7 * DAY))

    def test_words_apart_by_blanks(self):
        one, other = Cron(COMMON, "0  12   * * *"), Cron(COMMON, " 0 12 * * * ")
        self.assertEqual((one.of_day(), other.of_day()), ((12 * HOUR,), (12 * HOUR,)))

    def test_highest_numbers(self):
        Cron(COMMON, "59 23 32 12 6")
        months = Calendar((5, 9, 4), 1, 2, (0,), 3)
        Cron(months, "0 0 10 3 2")
        for calendar, text in ((COMMON, "60 0 1 1 0"), (COMMON, "0 24 1 1 0"), (COMMON, "0 0 33 1 0"), (COMMON, "0 0 0 1 0"),
                               (COMMON, "0 0 1 13 0"), (COMMON, "0 0 1 0 0"), (COMMON, "0 0 1 1 7"), (months, "0 0 11 1 0"),
                               (months, "0 0 1 4 0"), (months, "0 0 1 1 3"), (COMMON, ""), (COMMON, "* * * *"),
                               (COMMON, "* * * * * *"), (COMMON, "* * * * mon"), (COMMON, "* * * * 000")):
            with self.assertRaises(BadText, msg=text):
                Cron(calendar, text)

    def test_long_month_that_is_the_longest(self):
        calendar = Calendar((5, 9, 4), 1, 2, (0,), 3)
        cron = Cron(calendar, "0 0 10 * *")
        self.assertEqual([calendar.date(cron.at(count) // DAY) for count in (-1, 0, 1)], [(-2, 1, 9), (0, 1, 9), (2, 1, 9)])
        # A star has the longest month's last day, too.
        self.assertEqual(Cron(calendar, "0 0 * * *").between(0, 37 * DAY), 37)

    def test_never(self):
        for text in ("0 0 30 2 *", "0 0 32 * *", "* * 31 4,6,9,11 *"):
            cron = Cron(COMMON, text)
            for time in (-DAY, 0, 10 ** 12):
                self.assertEqual((cron.has(time), cron.ahead(time), cron.between(time, time + DAY)), (False, 0, 0))
                for refused in (cron.next, cron.last_ahead, cron.at):
                    with self.assertRaises(NoDay):
                        refused(time)

    def test_comes_again_too_late(self):
        with self.assertRaises(BadRule):
            Cron(Calendar((30, 31), 0, 1000, (0,), 7), "* * * * *")

    def test_as_going_through_days(self):
        draw = random.Random(20)
        for calendar in small_calendars() + [COMMON]:
            table = Table(calendar, -150, 150)
            for _ in range(6):
                highest = (59, 23, max(calendar.months) + 1, len(calendar.months), calendar.week - 1)
                lows = (0, 0, 1, 1, 0)
                words = [self.some_word(draw, low, high) for low, high in zip(lows, highest)]
                cron = Cron(calendar, " ".join(words))
                wanted = [numbers_of(*row) for row in zip(words, lows, highest)]
                self.assertEqual((cron.minutes, cron.hours), (wanted[0], wanted[1]))
                days = [day for day in range(-150, 150) if table.part(day, "day") + 1 in wanted[2]
                        and table.part(day, "month") + 1 in wanted[3] and table.part(day, "weekday") in wanted[4]]
                self.same(cron, days, draw)

    def some_word(self, draw, low, high):
        def one():
            first = draw.randrange(low, high + 1)
            last = draw.randrange(first, high + 1)
            by = draw.randrange(1, 5)
            return draw.choice(["*", f"*/{by}", f"{first}", f"{first:02d}-{last}", f"{first}-{last}/{by}", f"{first}/{by}"])
        return ",".join(one() for _ in range(draw.randrange(1, 3)))

    def same(self, cron, days, draw):
        seconds = [hour * HOUR + minute * 60 for hour in cron.hours for minute in cron.minutes]
        self.assertEqual(cron.of_day(), tuple(seconds))
        times = [day * DAY + second for day in days for second in seconds]
        below = bisect_left(times, 0)
        asked = [draw.randrange(-150 * DAY, 150 * DAY) for _ in range(40)] + draw.sample(times, min(40, len(times)))
        for time in asked + [time + 1 for time in asked]:
            place = bisect_left(times, time)
            self.assertEqual(cron.has(time), times[place:place + 1] == [time])
            self.assertEqual(cron.ahead(time), place - below)
            if place < len(times):
                self.assertEqual((cron.next(time), cron.at(place - below)), (times[place], times[place]))
            if place > 0:
                self.assertEqual((cron.last_ahead(time), cron.at(place - below - 1)), (times[place - 1], times[place - 1]))
            other = draw.choice(asked)
            self.assertEqual(cron.between(time, other), max(0, bisect_left(times, other) - place))

    def test_far_without_going_through(self):
        cron = Cron(COMMON, "15 6 1 1 *")
        self.assertEqual(COMMON.date(cron.at(10 ** 9) // DAY), (10 ** 9, 0, 0))
        self.assertEqual(cron.ahead(cron.at(-10 ** 9)), -10 ** 9)


class FirstOfAllTest(unittest.TestCase):
    def test_first_and_whose(self):
        crons = [Cron(COMMON, "0 12 * * *"), Cron(COMMON, "0 12 * * 0"), Cron(COMMON, "0 0 31 2 *"), Cron(COMMON, "0 11 2 * *")]
        sunday = COMMON.number_of(2026, 10, 21)
        self.assertEqual(COMMON.weekday_of(sunday), 6)
        self.assertEqual(first_of_all(crons, sunday * DAY), (sunday * DAY + 12 * HOUR, (0,)))
        self.assertEqual(first_of_all(crons, (sunday + 1) * DAY), ((sunday + 1) * DAY + 12 * HOUR, (0, 1)))
        second = COMMON.number_of(2026, 11, 1)
        self.assertEqual(first_of_all(crons, (second - 1) * DAY + 13 * HOUR), (second * DAY + 11 * HOUR, (3,)))

    def test_as_the_least_of_each(self):
        draw = random.Random(5)
        crons = [Cron(COMMON, f"{draw.randrange(3)}-{draw.randrange(3, 6)} {draw.randrange(24)} * * */{draw.randrange(1, 4)}")
                 for _ in range(4)] + [Cron(COMMON, "0 0 30 2 *")]
        for _ in range(50):
            time = draw.randrange(-10 ** 8, 10 ** 8)
            nexts = [cron.next(time) for cron in crons[:4]]
            first = min(nexts)
            self.assertEqual(first_of_all(crons, time), (first, tuple(k for k in range(4) if nexts[k] == first)))

    def test_never(self):
        never = Cron(COMMON, "0 0 30 2 *")
        for crons in ([], (), [never], (never, never)):
            with self.assertRaises(NoDay):
                first_of_all(crons, 0)
