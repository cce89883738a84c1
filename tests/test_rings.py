"""Promise 18: rings of numbers that come again, two places by two periods; with promise 6, rings of days and rules."""

import random
import unittest

from recurwright.calendars import common
from recurwright.counts import Counter
from recurwright.errors import BadSize, NoDay
from recurwright.rings import (
    MOST, Ring, common_to, either, least, many_between, meeting, opposite, paired, same, shifted, widened,
)
from recurwright.rules import All, Any, Every, Moved, Not
from tests.support import small_calendars

COMMON = common()


def some_ring(draw, longest=12):
    period = draw.randrange(1, longest)
    return Ring(period, [place for place in range(period) if draw.randrange(3) == 0])


def there(ring, low, high):
    return [number for number in range(low, high) if number % ring.period in ring.places]


class RingTest(unittest.TestCase):
    def test_fields_and_shown(self):
        ring = Ring(5, [3, 1])
        self.assertEqual((ring.period, ring.places), (5, (1, 3)))
        self.assertEqual(ring.shown(), (5, (1, 3)))
        self.assertEqual(Ring(5, ()).shown(), (5, ()))

    def test_as_going_through(self):
        draw = random.Random(19)
        rings = [some_ring(draw) for _ in range(40)] + [Ring(7, ()), Ring(1, (0,)), Ring(4, range(4)), Ring(1, ())]
        for ring in rings:
            numbers = there(ring, -60, 60)
            base = -len([number for number in numbers if number < 0])
            for number in range(-60, 60):
                self.assertEqual(ring.has(number), number in numbers)
                ahead = base + len([other for other in numbers if other < number])
                self.assertEqual(ring.ahead(number), ahead)
                later = [other for other in numbers if other >= number]
                if later != []:
                    self.assertEqual(ring.next(number), later[0])
                    self.assertEqual(ring.at(ahead), later[0])
                self.assertEqual(many_between(ring, -60, number), ahead - base)
                self.assertEqual(many_between(ring, number, number), 0)

    def test_periods_at_and_past_the_most(self):
        self.assertEqual(MOST, 5000)
        self.assertEqual(Ring(5000, [4999]).next(5000), 9999)
        self.assertEqual(widened(Ring(2500, [7]), 2).shown(), (5000, (7, 2507)))
        for period in (0, -1, 5001, 10 ** 9):
            with self.assertRaises(BadSize):
                Ring(period, ())
        for ring, times in ((Ring(2500, [7]), 3), (Ring(1, ()), 5001), (Ring(3, [0]), 0), (Ring(3, [0]), -1),
                            (Ring(5, [1]), 10 ** 12)):
            with self.assertRaises(BadSize):
                widened(ring, times)
        one, other = Ring(71, [0]), Ring(72, [0])
        for refused in (paired, either, common_to):
            with self.assertRaises(BadSize):
                refused(one, other)
        self.assertFalse(same(one, other))
        self.assertEqual(paired(Ring(50, [1]), Ring(100, [2]))[0].period, 100)
        self.assertEqual(common_to(Ring(8, [1]), Ring(625, [9])).period, 5000)

    def test_no_place_and_all(self):
        none, whole = Ring(6, ()), Ring(6, range(6))
        for refused in (none.at, none.next):
            with self.assertRaises(NoDay):
                refused(0)
        self.assertEqual((none.ahead(100), none.has(3), none.ahead(-100)), (0, False, 0))
        self.assertEqual((whole.ahead(100), whole.at(-7), whole.next(-3)), (100, -7, -3))
        self.assertEqual((least(none).shown(), least(whole).shown()), ((1, ()), (1, (0,))))
        self.assertEqual((opposite(none).shown(), opposite(whole).shown()), (whole.shown(), none.shown()))
        self.assertTrue(same(none, Ring(5, ())))
        self.assertTrue(same(whole, Ring(1, [0])))
        self.assertFalse(same(none, whole))

    def test_backwards(self):
        for ring in (Ring(3, [0]), Ring(3, ())):
            with self.assertRaises(BadSize):
                many_between(ring, 1, 0)


class PutTogetherTest(unittest.TestCase):
    def test_as_going_through(self):
        draw = random.Random(20)
        for _ in range(120):
            one, other = some_ring(draw), some_ring(draw)
            ours, theirs = there(one, -150, 150), there(other, -150, 150)
            many = draw.randrange(-30, 30)
            cases = [
                (either(one, other), sorted(set(ours) | set(theirs))),
                (common_to(one, other), sorted(set(ours) & set(theirs))),
                (opposite(one), [number for number in range(-150, 150) if number not in ours]),
                (shifted(one, many), [number for number in range(-150, 150) if (number - many) % one.period in one.places]),
                (widened(one, 3), ours), (least(one), ours), (paired(one, other)[0], ours), (paired(one, other)[1], theirs),
            ]
            for ring, numbers in cases:
                self.assertEqual(there(ring, -150, 150), numbers)
                self.assertEqual(ring.places, tuple(sorted(set(ring.places))))
                self.assertTrue(all(0 <= place < ring.period for place in ring.places))
            self.assertEqual(same(one, other), ours == theirs)
            self.assertEqual(widened(one, 3).period, 3 * one.period)
            self.assertEqual((opposite(one).period, shifted(one, many).period), (one.period, one.period))

    def test_least_common_period(self):
        for first, second, period in ((4, 6, 12), (3, 3, 3), (5, 1, 5), (10, 15, 30)):
            rings = paired(Ring(first, [0]), Ring(second, [0]))
            self.assertIsInstance(rings, tuple)
            self.assertEqual([ring.period for ring in rings], [period, period])
            self.assertEqual(either(Ring(first, [0]), Ring(second, [0])).period, period)
            self.assertEqual(common_to(Ring(first, [0]), Ring(second, [0])).period, period)

    def test_least_period(self):
        draw = random.Random(21)
        for _ in range(60):
            ring = some_ring(draw)
            wide = widened(ring, draw.randrange(1, 5))
            numbers = there(ring, 0, 400)
            good = [size for size in range(1, ring.period + 1) if ring.period % size == 0 and all(
                (number + size in numbers) == (number in numbers) for number in range(300))]
            self.assertEqual(least(wide).period, good[0])
            self.assertEqual(least(wide).shown(), least(ring).shown())
            self.assertTrue(same(ring, wide))


class MeetingTest(unittest.TestCase):
    def test_as_going_through(self):
        for period in range(1, 9):
            for other in range(1, 9):
                common_period = min(size for size in range(1, 65) if size % period == 0 and size % other == 0)
                for first in range(-3, period + 3):
                    for second in range(-3, other + 3):
                        good = [number for number in range(common_period)
                                if (number - first) % period == 0 and (number - second) % other == 0]
                        wanted = (good[0], common_period) if good != [] else None
                        self.assertEqual(meeting(first, period, second, other), wanted)

    def test_never_meet(self):
        self.assertIsNone(meeting(0, 2, 1, 4))
        self.assertIsNone(meeting(1, 10 ** 12, 2, 10 ** 12))
        self.assertEqual(meeting(0, 2, 2, 4), (2, 4))

    def test_far_past_the_most_of_rings(self):
        place, period = meeting(5, 10 ** 15 + 37, 7, 10 ** 14 + 31)
        self.assertEqual((place % (10 ** 15 + 37), place % (10 ** 14 + 31)), (5, 7))
        self.assertTrue(0 <= place < period)

    def test_refused(self):
        for period, other in ((0, 3), (3, 0), (-1, 3), (3, -2), (0, 0)):
            with self.assertRaises(BadSize):
                meeting(0, period, 1, other)


class DaysAndRulesTest(unittest.TestCase):
    """Promises 6 and 18 together: each so-manieth day is a ring, and rules put together are rings put together."""

    def test_rules_of_days_are_rings(self):
        for calendar in small_calendars() + [COMMON]:
            one, other = Every("days", 4, 1), Every("days", 6, -1)
            ring, second = Ring(4, [1]), Ring(6, [5])
            cases = [(one, ring), (All((one, other)), common_to(ring, second)), (Any((one, other)), either(ring, second)),
                     (Not(one), opposite(ring)), (Moved(other, 9), shifted(second, 9))]
            for rule, numbers in cases:
                counter = Counter(calendar, rule)
                for number in list(range(-40, 40)) + [10 ** 9, -(10 ** 9)]:
                    self.assertEqual(counter.ahead(number), numbers.ahead(number))
                    self.assertEqual(counter.next(number), numbers.next(number))
                    self.assertEqual(counter.nth(number, 12345), numbers.at(numbers.ahead(number) + 12345))

    def test_weekdays_are_rings_of_the_week(self):
        place, period = meeting(2, 7, 0, 4)
        both = Counter(COMMON, All((Every("days", 4, 0), Every("days", 7, 2))))
        self.assertEqual((both.next(0), both.nth(0, 1) - both.next(0)), (place, period))
