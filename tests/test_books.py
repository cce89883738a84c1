"""Promise 14: books of plans, what comes next, and two edited books."""

import itertools
import unittest

from recurwright.books import Book, common_room, merged
from recurwright.calendars import common
from recurwright.clocks import DAY
from recurwright.errors import BadSize, BadTime, NoDay, NoSuch
from recurwright.plans import Plan
from recurwright.rules import Is, always, never
from recurwright.zones import Zone
from tests.support import small_calendars

COMMON = common()
NONE = Zone(0)
HOUR = 3600


def plan_of(rule, first=0, last=None, time=9 * HOUR, length=HOUR, zone=NONE, calendar=COMMON):
    return Plan(calendar, rule, time, length, zone, first, last)


def some_book(calendar=COMMON):
    book = Book()
    book.put("walk", plan_of(Is("weekday", (0, 1)), 0, 40, calendar=calendar))
    book.put("bath", plan_of(always(), 0, 20, 9 * HOUR, HOUR, calendar=calendar))
    book.put("night", plan_of(Is("day", (1, 3)), -20, None, 22 * HOUR, 13 * HOUR, Zone(-2 * HOUR), calendar))
    book.put("none", plan_of(never(), calendar=calendar))
    return book


class NamesTest(unittest.TestCase):
    def test_put_take_here_and_names(self):
        book = Book()
        self.assertEqual((book.names(), book.in_order(), book.plans), ((), [], {}))
        one, other = plan_of(always()), plan_of(never())
        book.put("b", one)
        book.put("a", other)
        self.assertEqual(book.names(), ("a", "b"))
        self.assertEqual([id(plan) for plan in book.in_order()], [id(other), id(one)])
        self.assertIs(book.here("b"), one)
        self.assertIs(book.plans["a"], other)
        self.assertIs(book.take("b"), one)
        self.assertEqual(book.names(), ("a",))
        book.put("b", other)
        self.assertIs(book.here("b"), other)

    def test_what_is_refused_changes_nothing(self):
        book = Book()
        one = plan_of(always())
        book.put("b", one)
        for refused in (lambda: book.put("b", plan_of(never())), lambda: book.take("a"), lambda: book.here("")):
            with self.assertRaises(NoSuch):
                refused()
            self.assertEqual(book.names(), ("b",))
            self.assertIs(book.here("b"), one)


class DaysTest(unittest.TestCase):
    def test_between_as_going_through(self):
        for calendar in [COMMON] + small_calendars():
            book = some_book(calendar)
            book.here("bath").drop(4)
            book.here("bath").move(5, 0)
            book.here("none").add(5)
            for low, high in ((-9, 50), (3, 7), (5, 6), (5, 5), (9, 2)):
                wanted = [(plan.span(day), name) for name, plan in book.plans.items() for day in range(low, high)
                          if plan.has(day)]
                self.assertEqual(book.between(low, high), tuple(sorted(wanted)))
                if high == low + 1:
                    self.assertEqual(book.on_day(low), book.between(low, high))
                times = sorted({time for (first, last), _ in wanted for time in range(first, last, HOUR)})
                busy = book.busy(low, high)
                self.assertEqual(sum(last - first for first, last in busy), HOUR * len(times))
                self.assertTrue(all(any(first <= time < last for first, last in busy) for time in times))
                self.assertTrue(all(busy[place][1] < busy[place + 1][0] for place in range(len(busy) - 1)))

    def test_by_spans_then_names(self):
        book = some_book()
        self.assertEqual([name for _, name in book.on_day(2)], ["bath", "walk"])
        self.assertEqual(book.on_day(2)[0], ((2 * DAY + 9 * HOUR, 2 * DAY + 10 * HOUR), "bath"))
        self.assertEqual(book.on_day(-1), ())
        self.assertEqual(Book().between(0, 99), ())

    def test_next_as_going_through(self):
        for calendar in [COMMON] + small_calendars():
            book = some_book(calendar)
            book.here("bath").drop(5)
            for number in range(-30, 30):
                found = {}
                for day in range(number, 200):
                    found.setdefault(day, []).extend(name for name in book.names() if book.plans[name].has(day))
                good = [day for day in found if found[day] != []]
                if good != []:
                    self.assertEqual(book.next(number), (good[0], tuple(found[good[0]])))

    def test_next_of_and_nothing_more(self):
        book = some_book()
        self.assertEqual(book.next_of(book.here("bath"), 19), 19)
        self.assertIsNone(book.next_of(book.here("bath"), 20))
        self.assertIsNone(book.next_of(book.here("none"), 0))
        book.take("night")
        self.assertEqual(book.next(20), (23, ("walk",)))
        with self.assertRaises(NoDay):
            book.next(40)
        with self.assertRaises(NoDay):
            Book().next(0)

    def test_clashes(self):
        book = some_book()
        found = book.clashes(0, 5)
        rows = []
        for name in book.names():
            rows.extend((book.plans[name].span(day), name, day) for day in book.plans[name].days_between(0, 5))
        wanted = [((one[1], one[2]), (other[1], other[2])) for one, other in itertools.combinations(sorted(rows), 2)
                  if one[0][0] < other[0][1] and other[0][0] < one[0][1]]
        self.assertEqual(found, tuple(wanted))
        self.assertIn((("bath", 2), ("walk", 2)), found)
        self.assertIn((("night", 1), ("bath", 2)), found)
        self.assertEqual(book.clashes(5, 5), ())


class RoomTest(unittest.TestCase):
    def test_room(self):
        book = some_book()
        self.assertEqual(book.room(0, 9, 0, 9 * HOUR, 1), 0)
        self.assertEqual(book.room(0, 9, 0, 9 * HOUR + 1, 1), 10 * HOUR)
        self.assertEqual(book.room(0, 9, 60, 9 * HOUR, 3600), 10 * HOUR + 60)
        self.assertEqual(book.room(0, 0, 77, 9 * HOUR, 3600), 77)

    def test_common_room_as_trying_each_step(self):
        one, other = some_book(), Book()
        other.put("long", plan_of(always(), 0, 3, 0, 20 * HOUR))
        busy = one.busy(0, 9) + other.busy(0, 9)
        for start, length, step in ((0, HOUR, 60), (HOUR, 5 * HOUR, 7 * HOUR), (DAY, 14 * HOUR, 1800), (-5, 10 ** 6, 11)):
            wanted = start
            while any(first < wanted + length and wanted < last for first, last in busy):
                wanted += step
            self.assertEqual(common_room([one, other], 0, 9, start, length, step), wanted)
            self.assertEqual(common_room((other, one), 0, 9, start, length, step), wanted)
        self.assertEqual(common_room([one], 0, 9, 0, HOUR, 60), one.room(0, 9, 0, HOUR, 60))
        self.assertEqual(common_room([Book(), Book()], 0, 9, 5, HOUR, 60), 5)

    def test_refused(self):
        book = some_book()
        for length, step in ((0, 1), (-1, 1), (1, 0), (1, -1)):
            with self.assertRaises(BadTime):
                book.room(0, 9, 0, length, step)
            with self.assertRaises(BadTime):
                common_room([book, Book()], 0, 9, 0, length, step)
        for books in ((), []):
            with self.assertRaises(BadSize):
                common_room(books, 0, 9, 0, 1, 1)


class MergedTest(unittest.TestCase):
    def test_rows_that_only_one_changed_or_took_out(self):
        base = {"a": 1, "b": 2, "c": 3, "d": 4}
        self.assertEqual(merged(base, base, base), (base, ()))
        self.assertEqual(merged(base, {**base, "a": 9}, base), ({**base, "a": 9}, ()))
        self.assertEqual(merged(base, base, {**base, "a": 9}), ({**base, "a": 9}, ()))
        without = {"b": 2, "c": 3, "d": 4}
        self.assertEqual(merged(base, without, base), (without, ()))
        self.assertEqual(merged(base, base, without), (without, ()))
        self.assertEqual(merged(base, without, without), (without, ()))
        self.assertEqual(merged(base, {**base, "e": 5}, base), ({**base, "e": 5}, ()))
        self.assertEqual(merged(base, {**base, "e": 5}, {**base, "e": 5}), ({**base, "e": 5}, ()))
        self.assertEqual(merged({}, {}, {}), ({}, ()))

    def test_quarrels(self):
        base = {"a": 1, "b": 2}
        self.assertEqual(merged(base, {"a": 8, "b": 2}, {"a": 9, "b": 2}), ({"b": 2}, ("a",)))
        self.assertEqual(merged(base, {"b": 2}, {"a": 9, "b": 2}), ({"b": 2}, ("a",)))
        self.assertEqual(merged({}, {"z": 1, "c": 4}, {"z": 2, "c": 5}), ({}, ("c", "z")))

    def test_each_kind_of_rows(self):
        names = {}
        for place, rows in enumerate(itertools.product((None, "p", "q", "r"), repeat=3)):
            names[f"n{place:02d}"] = rows
        tables = [{name: rows[each] for name, rows in names.items() if rows[each] is not None} for each in range(3)]
        kept = [dict(table) for table in tables]
        settled, quarrels = merged(*tables)
        self.assertEqual(tables, kept)
        self.assertIsInstance(quarrels, tuple)
        for name, (base, one, other) in names.items():
            if one == other or base == other:
                wanted = one
            elif base == one:
                wanted = other
            else:
                self.assertIn(name, quarrels)
                self.assertNotIn(name, settled)
                continue
            self.assertNotIn(name, quarrels)
            self.assertEqual(settled.get(name), wanted)
            self.assertEqual(name in settled, wanted is not None)
        self.assertEqual(list(quarrels), sorted(quarrels))
