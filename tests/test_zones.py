"""Promise 10: zones, but for the turns of seasons; and of promise 26, a zone's fields."""

import unittest

from recurwright.clocks import DAY
from recurwright.errors import BadZone
from recurwright.zones import Zone, day_length, same_from

SUMMER = Zone(3600, [(100000, 7200), (200000, 3600)])
ZONES = [Zone(0), Zone(-5), SUMMER, Zone(10, [(0, 4), (3, 12), (6, 0), (40, 40), (50, 20), (55, 0)]),
         Zone(0, [(5, 30), (6, -30), (7, 0)]), Zone(7, [(-10, 7), (10, 3), (20, 3), (21, 9)])]


class ZoneTest(unittest.TestCase):
    def test_ahead_and_local(self):
        told = [SUMMER.ahead(when) for when in (-(10 ** 12), 99999, 100000, 199999, 200000, 10 ** 12)]
        self.assertEqual(told, [3600, 3600, 7200, 7200, 3600, 3600])
        self.assertEqual([SUMMER.local(99999), SUMMER.local(100000)], [103599, 107200])
        self.assertEqual([Zone(-5).ahead(0), Zone(-5).local(3)], [-5, -2])

    def test_times_as_going_through(self):
        for zone in ZONES[:2] + ZONES[3:]:
            by_local = {}
            for when in range(-300, 300):
                by_local.setdefault(zone.local(when), []).append(when)
            for local in range(-150, 150):
                times = tuple(by_local.get(local, ()))
                self.assertEqual(zone.times_of(local), times)
                if times != ():
                    self.assertEqual(zone.time_of(local), times[0])
                    self.assertEqual(zone.time_of(local, True), times[-1])
                    self.assertEqual(zone.time_of(local, later=False), times[0])
                else:
                    when = zone.time_of(local)
                    old = local - when
                    changes = [(turn, zone.ahead(turn)) for turn, _ in zone.changes if zone.ahead(turn - 1) == old]
                    self.assertTrue(any(turn + old <= local < turn + new for turn, new in changes))
                    self.assertEqual(zone.time_of(local, True), when)

    def test_twice_and_never(self):
        self.assertEqual(SUMMER.times_of(103599), (99999,))
        self.assertEqual(SUMMER.times_of(103600), ())
        self.assertEqual(SUMMER.times_of(107199), ())
        self.assertEqual(SUMMER.times_of(107200), (100000,))
        self.assertEqual(SUMMER.time_of(103600), 100000)
        self.assertEqual(SUMMER.time_of(107199), 103599)
        self.assertEqual(SUMMER.times_of(203600), (196400, 200000))
        self.assertEqual(SUMMER.times_of(207199), (199999, 203599))
        self.assertEqual(SUMMER.times_of(207200), (203600,))
        self.assertEqual((SUMMER.time_of(203600), SUMMER.time_of(203600, True)), (196400, 200000))

    def test_gaps_and_folds(self):
        self.assertEqual(SUMMER.gaps(), ((103600, 107200),))
        self.assertEqual(SUMMER.folds(), ((203600, 207200),))
        self.assertEqual(ZONES[5].gaps(), ((24, 30),))
        self.assertEqual(ZONES[5].folds(), ((13, 17),))
        self.assertEqual((Zone(4).gaps(), Zone(4).folds()), ((), ()))

    def test_merged_and_shown(self):
        self.assertEqual(ZONES[5].merged().shown(), (7, ((10, 3), (21, 9))))
        self.assertEqual(Zone(7, [(1, 7), (2, 7)]).merged().shown(), (7, ()))
        self.assertEqual(SUMMER.merged().shown(), SUMMER.shown())
        self.assertEqual(ZONES[5].shown(), (7, ((-10, 7), (10, 3), (20, 3), (21, 9))))

    def test_fields(self):
        zone = Zone(5, [[1, 2]])
        self.assertEqual((zone.first, zone.changes), (5, ((1, 2),)))
        self.assertEqual(Zone(5).changes, ())

    def test_same_from(self):
        for one in ZONES:
            for other in ZONES:
                for when in (-20, 5, 6, 30, 60):
                    times = [time for time in range(when, when + 120) if one.ahead(time) != other.ahead(time)]
                    if times != [] or SUMMER not in (one, other):
                        self.assertEqual(same_from(one, other, when), times[0] if times else None)
        self.assertIsNone(same_from(ZONES[5], ZONES[5].merged(), -100))
        self.assertEqual(same_from(Zone(1, [(9, 2)]), Zone(1, [(5, 3)]), 0), 5)
        self.assertEqual(same_from(SUMMER, Zone(3600), 0), 100000)
        self.assertEqual(same_from(SUMMER, Zone(3600), 150000), 150000)
        self.assertIsNone(same_from(SUMMER, Zone(3600), 200000))

    def test_day_length(self):
        zone = Zone(0, [(2 * DAY + 7200, 3600), (9 * DAY, 0)])
        self.assertEqual([day_length(zone, number) for number in (-1, 1, 2, 3, 9)], [DAY, DAY, DAY - 3600, DAY, DAY + 3600])
        midnight = Zone(0, [(5 * DAY, 3600)])
        self.assertEqual([day_length(midnight, 4), day_length(midnight, 5)], [DAY, DAY - 3600])

    def test_refused(self):
        Zone(DAY - 1, [(0, 1 - DAY)])
        for first, changes in ((DAY, ()), (-DAY, ()), (0, [(5, DAY)]), (0, [(5, 1), (9, -DAY)]),
                               (0, [(5, 1), (5, 2)]), (0, [(5, 1), (4, 2)]), (0, [(5, 1), (9, 2), (9, 3)])):
            with self.assertRaises(BadZone):
                Zone(first, changes)
