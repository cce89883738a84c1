"""Promise 30: what was known when."""

import random
import unittest

from recurwright.errors import BadTime, NoSuch
from recurwright.records import Records, meets_all, value_in

FAR = 30


def told_of(rows):
    records = Records()
    for when, name, value, *days in rows:
        records.tell(when, name, value, *days)
    return records


class TellTest(unittest.TestCase):
    def test_rows(self):
        records = Records()
        self.assertEqual(records.rows, [])
        records.tell(5, "a", 1, 0)
        records.tell(5, "b", None, -3, 7)
        self.assertEqual(records.rows, [("a", 1, 0, None, 5), ("b", None, -3, 7, 5)])

    def test_refused(self):
        records = told_of([(5, "a", 1, 0)])
        for row in ((4, "a", 1, 0), (4, "b", 1, 0, 5), (-1, "a", 1, 9, 9), (5, "a", 1, 0, 0), (5, "a", 1, 3, 2), (6, "a", None, -3, -3)):
            with self.assertRaises(BadTime):
                records.tell(*row)
            self.assertEqual(records.rows, [("a", 1, 0, None, 5)])
        told_of([(-5, "a", 1, 0), (-5, "a", 1, 0, 1), (0, "a", 1, 0)])


class KnownTest(unittest.TestCase):
    def setUp(self):
        self.records = told_of([
            (10, "pay", 100, 0), (20, "pay", 120, 50, 80), (20, "pay", 130, 60, 80), (30, "pay", None, 70, 90),
            (30, "post", "x", 40, 75), (40, "pay", 100, 50, 60)])

    def test_at(self):
        at = lambda day, when: self.records.at("pay", day, when)
        self.assertEqual([at(55, when) for when in (10, 19, 20, 39, 40, 99)], [100, 100, 120, 120, 100, 100])
        self.assertEqual([at(day, 20) for day in (0, 49, 50, 59, 60, 79, 80, 10 ** 9)], [100, 100, 120, 120, 130, 130, 100, 100])
        self.assertEqual([at(day, 30) for day in (69, 70, 89, 90)], [130, None, None, 100])
        for name, day, when in (("pay", -1, 99), ("pay", 55, 9), ("post", 75, 99), ("post", 39, 99), ("post", 50, 29), ("none", 0, 99)):
            with self.assertRaises(NoSuch):
                self.records.at(name, day, when)

    def test_spans(self):
        spans = lambda when: self.records.spans("pay", when)
        self.assertEqual((spans(9), spans(10)), ((), (((0, None), 100),)))
        self.assertEqual(spans(20), (((0, 50), 100), ((50, 60), 120), ((60, 80), 130), ((80, None), 100)))
        # Neighbours alike are one, though told at other times; what has none is told, too.
        self.assertEqual(spans(40), (((0, 60), 100), ((60, 70), 130), ((70, 90), None), ((90, None), 100)))
        self.assertEqual((self.records.spans("post", 99), self.records.spans("none", 99)), ((((40, 75), "x"),), ()))

    def test_names(self):
        self.assertEqual([self.records.names(when) for when in (9, 10, 29, 30)], [(), ("pay",), ("pay",), ("pay", "post")])

    def test_changed(self):
        changed = lambda first, second: self.records.changed("pay", first, second)
        self.assertEqual((changed(10, 20), changed(20, 10), changed(10, 10), changed(8, 9)), (((50, 80),), ((50, 80),), (), ()))
        self.assertEqual((changed(20, 30), changed(30, 40), changed(10, 40)), (((70, 90),), ((50, 60),), ((60, 90),)))
        self.assertEqual((changed(0, 10), self.records.changed("post", 30, 0)), (((0, None),), ((40, 75),)))
        # Nothing told and none told are unlike.
        records = told_of([(1, "a", None, 5, 9), (2, "a", 3, 7)])
        self.assertEqual((records.changed("a", 0, 1), records.changed("a", 1, 2), records.changed("a", 0, 2)),
                         (((5, 9),), ((7, None),), ((5, None),)))

    def test_first_known(self):
        known = lambda day, value: self.records.first_known("pay", day, value)
        self.assertEqual((known(0, 100), known(55, 120), known(55, 100), known(60, 130), known(70, None)), (10, 20, 10, 20, 30))
        # Told at one time, the latest counts: the other was never known.
        for name, day, value in (("pay", 60, 120), ("pay", 0, 130), ("pay", -1, 100), ("pay", 0, None), ("post", 75, "x"), ("x", 0, 100)):
            with self.assertRaises(NoSuch):
                self.records.first_known(name, day, value)

    def test_value_in(self):
        spans = self.records.spans("pay", 40)
        told = [value_in(spans, day) for day in (-1, 0, 59, 60, 70, 89, 90, 10 ** 9)]
        self.assertEqual(told, [(), (100,), (100,), (130,), (None,), (None,), (100,), (100,)])
        self.assertEqual(value_in((), 5), ())

    def test_meets_all(self):
        meets = lambda names, when: meets_all(self.records, names, when)
        self.assertEqual(meets(("pay",), 20), ((0, None),))
        self.assertEqual(meets(["pay"], 40), ((0, 70), (90, None)))
        self.assertEqual((meets(("pay", "post"), 30), meets(("pay", "post"), 20)), (((40, 70),), ()))
        self.assertEqual((meets(("pay", "none"), 99), meets(("pay",), 0), meets((), 99)), ((), (), ()))


class AllTest(unittest.TestCase):
    def test_as_going_through_rows(self):
        draw = random.Random(31)
        for _ in range(60):
            records, when, rows = Records(), 0, []
            for _ in range(draw.randrange(12)):
                when += draw.choice([0, 0, 1, 3])
                first = draw.randrange(-FAR, FAR)
                last = None if draw.random() < 0.2 else first + draw.randrange(1, 20)
                row = (draw.choice("ab"), draw.choice([None, 1, 2, 2]), first, last, when)
                records.tell(when, row[0], row[1], first, last)
                rows.append(row)
            self.assertEqual(records.rows, rows)
            times = range(-1, when + 2)
            known = {(name, time): self.known(rows, name, time) for name in "abc" for time in times}
            for (name, time), table in known.items():
                self.same(records, name, time, table)
            for time in times:
                self.assertEqual(records.names(time), tuple(sorted({row[0] for row in rows if row[4] <= time})))
                other = draw.choice(times)
                unlike = self.spans_where(lambda day: known["a", time].get(day, ()) != known["a", other].get(day, ()))
                self.assertEqual(records.changed("a", time, other), unlike)
                both = self.spans_where(lambda day: all(known[name, time].get(day) is not None for name in "ab"))
                self.assertEqual(meets_all(records, ("a", "b"), time), both)
            self.same_firsts(records, known, times)

    def known(self, rows, name, time):
        """The values of days, as known at a time; the last day stands for all behind it."""
        table = {}
        for other, value, first, last, when in rows:
            if other == name and when <= time:
                table.update({day: value for day in range(first, 3 * FAR if last is None else last)})
        return table

    def spans_where(self, good):
        spans = []
        for day in [day for day in range(-FAR, 3 * FAR) if good(day)]:
            if spans != [] and spans[-1][1] == day:
                spans[-1] = (spans[-1][0], day + 1)
            else:
                spans.append((day, day + 1))
        return tuple((first, None if last == 3 * FAR else last) for first, last in spans)

    def same(self, records, name, time, table):
        spans = []
        for value in (None, 1, 2):
            spans.extend((span, value) for span in self.spans_where(lambda day: day in table and table[day] == value))
        wanted = tuple(sorted(spans, key=lambda row: row[0][0]))
        self.assertEqual(records.spans(name, time), wanted)
        for day in range(-FAR - 2, 2 * FAR):
            if day in table:
                self.assertEqual((records.at(name, day, time), value_in(wanted, day)), (table[day], (table[day],)))
            else:
                self.assertEqual(value_in(wanted, day), ())
                with self.assertRaises(NoSuch):
                    records.at(name, day, time)

    def same_firsts(self, records, known, times):
        for day in range(-FAR, FAR, 7):
            for value in (None, 1, 2):
                good = [time for time in times if day in known["a", time] and known["a", time][day] == value]
                if good == []:
                    with self.assertRaises(NoSuch):
                        records.first_known("a", day, value)
                else:
                    self.assertEqual(records.first_known("a", day, value), good[0])
