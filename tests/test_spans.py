"""Promise 12: spans put together, both, without, free, the first free time, the deepest, held against each small time."""

import random
import unittest

from recurwright.errors import BadTime, NoDay
from recurwright.spans import (
    both, check_span, clashing, covers, deepest, first_free, free, together, total, without,
)

LOW, HIGH = -12, 30


def covered(spans):
    """The times that spans cover, each told one by one."""
    return {time for first, last in spans for time in range(first, last)}


def spans_of(times):
    """The spans of times, in order, each as long as can be."""
    found = []
    for time in sorted(times):
        if found != [] and found[-1][1] == time:
            found[-1][1] = time + 1
        else:
            found.append([time, time + 1])
    return tuple(tuple(row) for row in found)


def some_spans(draw, most=7):
    rows = []
    for _ in range(draw.randrange(most)):
        first = draw.randrange(LOW, HIGH - 1)
        rows.append(draw.choice([tuple, list])((first, draw.randrange(first + 1, min(HIGH, first + 9) + 1))))
    return draw.choice([tuple, list])(rows)


class SpansTest(unittest.TestCase):
    def setUp(self):
        self.draw = random.Random(12)

    def test_check_span(self):
        self.assertEqual(check_span([3, 4]), (3, 4))
        self.assertEqual(check_span((-3, 4)), (-3, 4))
        for span in ((4, 4), (4, 3), [0, -1]):
            with self.assertRaises(BadTime):
                check_span(span)

    def test_together(self):
        self.assertEqual(together([(5, 6), (1, 3), (3, 4), (0, 2)]), ((0, 4), (5, 6)))
        self.assertEqual(together([[1, 2], [2, 3]]), ((1, 3),))
        self.assertEqual(together([(1, 2), (3, 4)]), ((1, 2), (3, 4)))
        self.assertEqual(together([(0, 9), (1, 2)]), ((0, 9),))
        self.assertEqual(together(()), ())
        for _ in range(300):
            spans = some_spans(self.draw)
            kept = [tuple(span) for span in spans]
            self.assertEqual(together(spans), spans_of(covered(spans)))
            self.assertEqual([tuple(span) for span in spans], kept)

    def test_both_without_free_total(self):
        self.assertEqual(both([(0, 5)], [(5, 9)]), ())
        self.assertEqual(both([(0, 5), (5, 9)], [(3, 6)]), ((3, 6),))
        self.assertEqual(without([(0, 9)], [(3, 4)]), ((0, 3), (4, 9)))
        self.assertEqual(without([(0, 9)], [(-3, 12)]), ())
        self.assertEqual(without([(0, 2), (2, 4)], ()), ((0, 4),))
        self.assertEqual(free((), 3, 8), ((3, 8),))
        self.assertEqual(free([(3, 4), (7, 9)], 3, 8), ((4, 7),))
        self.assertEqual((both((), ()), without((), [(0, 1)]), total(())), ((), (), 0))
        for _ in range(400):
            one, other = some_spans(self.draw), some_spans(self.draw)
            self.assertEqual(both(one, other), spans_of(covered(one) & covered(other)))
            self.assertEqual(without(one, other), spans_of(covered(one) - covered(other)))
            self.assertEqual(total(one), len(covered(one)))
            low = self.draw.randrange(LOW, HIGH)
            high = self.draw.randrange(low + 1, HIGH + 2)
            self.assertEqual(free(one, low, high), spans_of(set(range(low, high)) - covered(one)))

    def test_first_free(self):
        self.assertEqual(first_free((), 7, 100), 7)
        self.assertEqual(first_free([(5, 9)], 0, 5), 0)
        self.assertEqual(first_free([(5, 9)], 0, 6), 9)
        self.assertEqual(first_free([(5, 9)], 0, 6, 4), 12)
        self.assertEqual(first_free([(5, 9)], 1, 6, 4), 9)
        self.assertEqual(first_free([(0, 4), (6, 8)], 1, 2, 3), 4)
        self.assertEqual(first_free([(0, 4), (6, 8)], 0, 2, 3), 9)
        self.assertEqual(first_free([(0, 4)], 4, 9), 4)
        self.assertEqual(first_free([(0, 10 ** 12)], 1, 1, 7), 10 ** 12 + (1 - 10 ** 12) % 7)
        for _ in range(400):
            spans = some_spans(self.draw)
            first, length = self.draw.randrange(LOW, HIGH), self.draw.randrange(1, 6)
            step = self.draw.randrange(1, 6)
            times = covered(spans)
            wanted = first
            while times & set(range(wanted, wanted + length)):
                wanted += step
            self.assertEqual(first_free(spans, first, length, step), wanted)

    def test_deepest(self):
        self.assertEqual(deepest([(0, 5)]), (1, 0))
        self.assertEqual(deepest([(0, 5), (5, 9)]), (1, 0))
        self.assertEqual(deepest([(0, 5), (4, 9), (4, 5)]), (3, 4))
        self.assertEqual(deepest([(0, 2), (0, 2), (5, 6), (5, 6)]), (2, 0))
        for _ in range(300):
            spans = some_spans(self.draw)
            if len(spans) > 0:
                depths = {time: len([1 for first, last in spans if first <= time < last]) for time in range(LOW, HIGH)}
                most = max(depths.values())
                self.assertEqual(deepest(spans), (most, min(time for time in depths if depths[time] == most)))

    def test_covers(self):
        self.assertTrue(covers([(0, 3), (3, 6)], (1, 5)))
        self.assertTrue(covers([(0, 3)], [0, 3]))
        self.assertFalse(covers([(0, 3), (4, 6)], (1, 5)))
        self.assertFalse(covers((), (1, 2)))
        for _ in range(300):
            spans = some_spans(self.draw)
            first = self.draw.randrange(LOW, HIGH)
            last = first + self.draw.randrange(1, 5)
            self.assertEqual(covers(spans, (first, last)), set(range(first, last)) <= covered(spans))

    def test_clashing(self):
        self.assertEqual(clashing([(4, 9), (0, 4), (3, 5)]), ((0, 2), (1, 2)))
        self.assertEqual(clashing([(0, 1), (0, 1), (0, 1)]), ((0, 1), (0, 2), (1, 2)))
        self.assertEqual(clashing(()), ())
        for _ in range(300):
            spans = some_spans(self.draw)
            wanted = [(low, high) for low in range(len(spans)) for high in range(low + 1, len(spans))
                      if covered([spans[low]]) & covered([spans[high]])]
            self.assertEqual(clashing(spans), tuple(wanted))

    def test_refused(self):
        bare, good = [(0, 5), (7, 7)], [(1, 2)]
        for refused in (
            lambda: together(bare), lambda: both(bare, good), lambda: both(good, bare), lambda: without(bare, good),
            lambda: without(good, bare), lambda: without((), bare), lambda: free(bare, 0, 5), lambda: free(good, 5, 5),
            lambda: free(good, 5, 4), lambda: total(bare), lambda: first_free(bare, 0, 1), lambda: deepest(bare),
            lambda: first_free(good, 0, 0), lambda: first_free(good, 0, -1), lambda: first_free(good, 0, 1, 0),
            lambda: first_free((), 0, 1, -1), lambda: covers(bare, (0, 1)), lambda: covers(good, (1, 1)),
            lambda: covers(good, (2, 1)), lambda: clashing(bare), lambda: clashing([(2, 1)]),
        ):
            with self.assertRaises(BadTime):
                refused()
        for spans in ((), []):
            with self.assertRaises(NoDay):
                deepest(spans)
