"""Promise 9: times of day and lengths, told and read."""

import unittest

from recurwright.clocks import DAY, FIGURES, check_time, parts_of, read_length, read_time, rounded, time_of
from recurwright.clocks import told_length, told_time, two
from recurwright.errors import BadText, BadTime


class TimeTest(unittest.TestCase):
    def test_times(self):
        self.assertEqual((DAY, FIGURES), (86400, "0123456789"))
        for seconds in (0, 1, 59, 60, 3599, 3600, 43200, DAY - 1):
            self.assertEqual(check_time(seconds), seconds)
            self.assertEqual(time_of(*parts_of(seconds)), seconds)
            self.assertEqual(read_time(told_time(seconds)), seconds)
        self.assertEqual(time_of(23, 59, 59), DAY - 1)
        self.assertEqual(time_of(9, 5), 32700)
        self.assertEqual(parts_of(32701), (9, 5, 1))

    def test_told_and_read(self):
        self.assertEqual([told_time(0), told_time(DAY - 1), told_time(32700)], ["00.00.00", "23.59.59", "09.05.00"])
        self.assertEqual([read_time("09.05"), read_time("09.05.07"), read_time("00.00")], [32700, 32707, 0])
        self.assertEqual([two(0), two(7), two(10), two(123)], ["00", "07", "10", "123"])

    def test_refused_times(self):
        for seconds in (-1, DAY, 10 ** 9):
            for refused in (check_time, parts_of, told_time):
                with self.assertRaises(BadTime):
                    refused(seconds)
        for hours, minutes, seconds in ((24, 0, 0), (-1, 0, 0), (0, 60, 0), (0, -1, 0), (0, 0, 60), (0, 0, -1)):
            with self.assertRaises(BadTime):
                time_of(hours, minutes, seconds)
        for text in ("24.00", "00.60", "00.00.60", "99.99"):
            with self.assertRaises(BadTime):
                read_time(text)

    def test_texts_that_are_no_times(self):
        for text in ("", ".", "9.05", "09", "09.5", "09.05.", "09.05.07.00", "09:05", "0a.00", "-1.00", " 9.00", "009.00",
                     "09..05", "+1.00", "\u0661\u0661.00", "09.05 "):
            with self.assertRaises(BadText, msg=text):
                read_time(text)


class LengthTest(unittest.TestCase):
    def test_told_and_read(self):
        told = {0: "0s", 1: "1s", 60: "1m", 3600: "1h", 86400: "1d", 90061: "1d1h1m1s", 86399: "23h59m59s",
                172805: "2d5s", 10 ** 7: "115d17h46m40s"}
        for seconds, text in told.items():
            self.assertEqual(told_length(seconds), text)
            self.assertEqual(read_length(text), seconds)
        self.assertEqual(read_length("100h"), 360000)
        self.assertEqual(read_length("999999d"), 999999 * DAY)
        self.assertEqual(read_length("0d90s"), 90)
        with self.assertRaises(BadTime):
            told_length(-1)

    def test_texts_that_are_no_lengths(self):
        for text in ("", "5", "s", "1s1m", "1h1h", "01s", "00s", "1000000s", "-1s", "1 s", "1x", "1d5", "1h 5m", " 1s", "1s ",
                     "1S", "+1s", "1dd", "\u0661s", "1ds"):
            with self.assertRaises(BadText, msg=text):
                read_length(text)


class RoundedTest(unittest.TestCase):
    def test_nearest_and_later(self):
        for step in (1, 2, 3, 7, 60):
            for seconds in range(-150, 150):
                steps = range(seconds - seconds % step - step, seconds + 2 * step, step)
                nearest = max(steps, key=lambda time: (-abs(time - seconds), time))
                self.assertEqual(rounded(seconds, step), nearest)
        self.assertEqual([rounded(89, 60), rounded(90, 60), rounded(-90, 60)], [60, 120, -60])
        for step in (0, -1):
            with self.assertRaises(BadTime):
                rounded(5, step)
