"""Promise 21: rides, the earliest times and ways with their papers, and the latest times."""

import random
import unittest

from recurwright.calendars import Calendar, common
from recurwright.clocks import DAY
from recurwright.days import Day
from recurwright.errors import BadPaper, BadRule, BadTime, NoDay
from recurwright.rules import Every, Is, always, never
from recurwright.trips import Ride, check_way, earliest, latest, way
from tests.support import small_calendars, some_rule

COMMON = common()
HOUR = 3600


def daily(start, hour, end, hours, rule=None):
    return Ride(COMMON, always() if rule is None else rule, start, hour * HOUR, end, hours * HOUR)


class RideTest(unittest.TestCase):
    def test_fields(self):
        ride = daily("a", 8, "b", 3)
        self.assertEqual((ride.start, ride.time, ride.end, ride.length), ("a", 8 * HOUR, "b", 3 * HOUR))
        self.assertEqual(ride.counter.between(0, 9), 9)

    def test_refused(self):
        for start, time, end, length in (("a", -1, "b", 1), ("a", DAY, "b", 1), ("a", 0, "b", 0), ("a", 0, "a", 1),
                                         ("a", 0, "b", -5)):
            with self.assertRaises(BadTime):
                Ride(COMMON, always(), start, time, end, length)
        Ride(COMMON, always(), "a", DAY - 1, "b", 1)
        with self.assertRaises(BadRule):
            Ride(COMMON, Every("years", 7001, 0), "a", 0, "b", 1)

    def test_known_times(self):
        ride = daily("a", 8, "b", 20, Is("weekday", (0,)))
        monday = COMMON.number_of(2026, 10, 22)
        leaves = monday * DAY + 8 * HOUR
        self.assertEqual([ride.next(leaves + more) for more in (-1, 0, 1)], [leaves, leaves, leaves + 7 * DAY])
        came = leaves + 20 * HOUR
        self.assertEqual([ride.last_leave(came + more) for more in (-1, 0, 1)], [leaves - 7 * DAY, leaves, leaves])

    def test_never(self):
        for rule in (never(), Is("day", (31,))):
            ride = daily("a", 0, "b", 1, rule)
            for time in (-10 ** 9, 0, 10 ** 9):
                self.assertEqual((ride.next(time), ride.last_leave(time)), (None, None))

    def test_as_going_through_days(self):
        draw = random.Random(4)
        for calendar in small_calendars() + [COMMON]:
            for _ in range(8):
                rule = some_rule(draw, calendar, 2)
                ride = Ride(calendar, rule, 1, draw.randrange(DAY), 2, draw.randrange(1, 3 * DAY))
                leaves = [day * DAY + ride.time for day in range(-300, 300) if rule.has(Day(calendar, day))]
                for time in [draw.randrange(-50 * DAY, 50 * DAY) for _ in range(20)] + leaves[250:270]:
                    for asked in (time, time + 1, time - 1, time + ride.length, time + ride.length - 1):
                        later = [other for other in leaves if other >= asked]
                        before = [other for other in leaves if other + ride.length <= asked]
                        if later != []:
                            self.assertEqual(ride.next(asked), later[0])
                        if before != []:
                            self.assertEqual(ride.last_leave(asked), before[-1])
                        if leaves == []:
                            self.assertEqual((ride.next(asked), ride.last_leave(asked)), (None, None))


NET = [daily("a", 8, "b", 2), daily("b", 10, "c", 1), daily("b", 11, "c", 1), daily("c", 1, "a", 30), daily("d", 5, "a", 1)]


class EarliestTest(unittest.TestCase):
    def test_known_times(self):
        self.assertEqual(earliest(NET, "a", 0, 0), {"a": 0, "b": 10 * HOUR, "c": 11 * HOUR})
        # Changing takes time, but not at the start.
        self.assertEqual(earliest(NET, "a", 8 * HOUR, 1), {"a": 8 * HOUR, "b": 10 * HOUR, "c": 12 * HOUR})
        self.assertEqual(earliest(NET, "a", 8 * HOUR + 1, HOUR), {"a": 8 * HOUR + 1, "b": DAY + 10 * HOUR, "c": DAY + 12 * HOUR})
        self.assertEqual(earliest(NET, "b", 10 * HOUR, 5 * HOUR)["c"], 11 * HOUR)
        self.assertEqual(earliest(NET, "e", 7, 3), {"e": 7})
        self.assertEqual(earliest([], "a", -7, 3), {"a": -7})
        self.assertEqual(earliest([daily("a", 3, "b", 1, never())], "a", 0, 0), {"a": 0})

    def test_back_at_the_start_is_no_earlier(self):
        rides = [daily(1, 0, 2, 1), daily(2, 1, 1, 1)]
        self.assertEqual(earliest(rides, 1, 0, 0), {1: 0, 2: HOUR})

    def test_known_latest_times(self):
        self.assertEqual(latest(NET, "c", 11 * HOUR, 0), {"c": 11 * HOUR, "b": 10 * HOUR, "a": 8 * HOUR, "d": 5 * HOUR})
        # Changing takes time at each place but the end.
        found = latest(NET, "c", 11 * HOUR, 1)
        self.assertEqual((found["b"], found["a"], found["d"]), (10 * HOUR, 8 * HOUR - DAY, 5 * HOUR - DAY))
        self.assertEqual(latest(NET, "c", 12 * HOUR, HOUR)["a"], 8 * HOUR)
        self.assertEqual(latest(NET, "c", 10 * HOUR, 0)["b"], 11 * HOUR - DAY)
        self.assertEqual(latest([daily("a", 3, "b", 1, never())], "b", 0, 0), {"b": 0})

    def test_as_going_through_all_rides(self):
        draw = random.Random(21)
        for calendar in small_calendars() + [COMMON]:
            for _ in range(5):
                rides, leaves = some_net(draw, calendar)
                change = draw.choice([0, 1, 900, 5 * HOUR])
                time = draw.randrange(-3 * DAY, 3 * DAY)
                start, end = draw.sample(range(5), 2)
                wanted = {start: time}
                for when, number in sorted(leaves):
                    ride = rides[number]
                    if ride.start in wanted and when >= wanted[ride.start] + (0 if ride.start == start else change):
                        wanted[ride.end] = min(wanted.get(ride.end, when + ride.length), when + ride.length)
                wanted = {place: when for place, when in wanted.items() if when < 40 * DAY}
                self.assertEqual(earliest(rides, start, time, change), wanted)
                back = {end: time}
                for when, number in sorted(leaves, key=lambda row: -row[0] - rides[row[1]].length):
                    ride = rides[number]
                    if ride.end in back and when + ride.length <= back[ride.end] - (0 if ride.end == end else change):
                        back[ride.start] = max(back.get(ride.start, when), when)
                self.assertEqual(latest(rides, end, time, change), back)


def some_net(draw, calendar):
    """Rides between five places, and all they leave, (when, number), in eighty days."""
    rides, leaves = [], []
    for number in range(draw.randrange(1, 12)):
        start, end = draw.sample(range(5), 2)
        rule = draw.choice([always(), Is("weekday", (0,)), Every("days", 2, number), never()])
        ride = Ride(calendar, rule, start, draw.randrange(24) * HOUR, end, draw.randrange(1, 40) * HOUR)
        rides.append(ride)
        days = [day for day in range(-90, 90) if rule.has(Day(calendar, day))]
        leaves.extend((day * DAY + ride.time, number) for day in days)
    return rides, leaves


class WayTest(unittest.TestCase):
    def test_known_ways(self):
        self.assertEqual(way(NET, "a", "c", 0, 0), ((0, 8 * HOUR), (1, 10 * HOUR)))
        self.assertEqual(way(NET, "a", "c", 0, 1), ((0, 8 * HOUR), (2, 11 * HOUR)))
        self.assertEqual(way(NET, "d", "b", 0, 0), ((4, 5 * HOUR), (0, 8 * HOUR)))
        self.assertEqual(way(NET, "a", "a", 5, 9), ())
        for rides, end in ((NET, "d"), (NET, "x"), ([], "a"), ([daily("b", 0, "a", 1, never())], "a")):
            with self.assertRaises(NoDay):
                way(rides, "b", end, 0, 0)

    def test_lowest_of_ways_as_early(self):
        rides = [daily("b", 12, "c", 2), daily("a", 8, "b", 2), daily("a", 9, "b", 1), daily("a", 7, "c", 7), daily("b", 13, "c", 1)]
        self.assertEqual(way(rides, "a", "c", 0, 0), ((1, 8 * HOUR), (0, 12 * HOUR)))
        self.assertEqual(way(rides[2:], "a", "c", 0, 0), ((1, 7 * HOUR),))
        self.assertEqual(way(rides[::-1], "a", "c", 0, 0), ((2, 9 * HOUR), (0, 13 * HOUR)))

    def test_each_place_by_its_earliest_time(self):
        rides = [daily("a", 8, "b", 3), daily("a", 8, "b", 1), daily("b", 15, "c", 1)]
        self.assertEqual(way(rides, "a", "c", 0, 0), ((1, 8 * HOUR), (2, 15 * HOUR)))

    def test_ways_are_ridden_and_their_papers_taken(self):
        draw = random.Random(22)
        for calendar in small_calendars() + [COMMON]:
            for _ in range(5):
                rides, leaves = some_net(draw, calendar)
                change = draw.choice([0, 1, 900, 5 * HOUR])
                time = draw.randrange(-3 * DAY, 3 * DAY)
                table = earliest(rides, 0, time, change)
                for end in range(5):
                    if end not in table:
                        with self.assertRaises(NoDay):
                            way(rides, 0, end, time, change)
                        continue
                    steps = way(rides, 0, end, time, change)
                    here, ready = 0, time
                    for number, when in steps:
                        self.assertEqual((rides[number].start, (when, number) in leaves, when >= ready), (here, True, True))
                        here, ready = rides[number].end, when + rides[number].length + change
                        self.assertEqual(ready - change, table[here])
                        lower = [other for other in range(number) if (table[here] - rides[other].length, other) in leaves
                                 and rides[other].end == here and rides[other].start in table
                                 and table[here] - rides[other].length >= table[rides[other].start] + change * (rides[other].start != 0)]
                        self.assertEqual(lower, [])
                    self.assertEqual(here, end)
                    self.assertEqual(check_way(rides, 0, end, time, change, steps, table), table[end])


class PapersTest(unittest.TestCase):
    def check(self, steps, table, start="a", end="c", time=0, change=0):
        return check_way(NET, start, end, time, change, steps, table)

    def test_taken(self):
        table = earliest(NET, "a", 0, 0)
        steps = ((0, 8 * HOUR), (1, 10 * HOUR))
        self.assertEqual(self.check(steps, table), 11 * HOUR)
        self.assertEqual(self.check([list(step) for step in steps], table), 11 * HOUR)
        self.assertEqual(self.check((), table, end="a"), 0)
        self.assertEqual(self.check((), {"x": 5}, start="x", end="x", time=5), 5)
        # A table may tell a time that nobody comes by, if it isn't too late.
        self.assertEqual(self.check(steps, {**table, "d": 10 ** 9}), 11 * HOUR)
        # A place on the way may be reached later than could be.
        slow = [daily("a", 8, "b", 3), daily("a", 8, "b", 1), daily("b", 15, "c", 1)]
        found = earliest(slow, "a", 0, 0)
        self.assertEqual(check_way(slow, "a", "c", 0, 0, ((0, 8 * HOUR), (2, 15 * HOUR)), found), 16 * HOUR)

    def test_refused(self):
        table = earliest(NET, "a", 0, 0)
        steps = ((0, 8 * HOUR), (1, 10 * HOUR))
        late = ((0, 8 * HOUR), (2, 11 * HOUR))
        for bad, other in (
                (steps, {}), (steps, {**table, "a": 1}), (steps, {**table, "a": -1}),
                (steps, {**table, "b": 10 * HOUR + 1}), (steps, {"a": 0}), (steps, {"a": 0, "b": 10 * HOUR}),
                (steps, {**table, "c": 11 * HOUR + 1}), (steps, {**table, "c": 11 * HOUR - 1}), (late, {**table, "c": 12 * HOUR}),
                (late, table), ((), table), (steps[:1], table), (steps[1:], table), (steps + steps[1:], table),
                (((5, 0),), table), (((-1, 5 * HOUR),), table), (((0, 8 * HOUR), (0, 10 * HOUR)), table),
                (((0, 8 * HOUR - DAY),) + steps[1:], table), (((0, 9 * HOUR),) + steps[1:], table),
                (((0, 8 * HOUR), (1, 10 * HOUR - DAY)), table), (((0, 8 * HOUR), (1, 10 * HOUR + DAY)), table),
                (((4, 5 * HOUR),), table), (steps[::-1], table)):
            with self.assertRaises(BadPaper, msg=(bad, other)):
                self.check(bad, other)
        # Changing takes too long for the step.
        with self.assertRaises(BadPaper):
            self.check(steps, earliest(NET, "a", 0, 1), change=1)

    def test_wrong_papers_of_random_nets(self):
        draw = random.Random(9)
        taken = 0
        for _ in range(60):
            rides, _ = some_net(draw, draw.choice(small_calendars()))
            table = earliest(rides, 0, 0, 600)
            end = draw.choice(list(table))
            steps = way(rides, 0, end, 0, 600)
            place = draw.choice(list(table))
            wrong = {**table, place: table[place] + draw.choice([-1, 1, 7])}
            if place == end or place == 0 or wrong[place] > table[place]:
                with self.assertRaises(BadPaper):
                    check_way(rides, 0, end, 0, 600, steps, wrong)
                taken += 1
        self.assertGreater(taken, 20)
