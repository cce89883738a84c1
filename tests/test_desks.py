"""Promise 25: lines said to a desk, answered, written down and done again."""

import random
import unittest

from recurwright.calendars import Calendar, common
from recurwright.clocks import DAY, told_time
from recurwright.desks import BASE, FIGURES, WIDE, Desk, done_again, figure_of, lines_of, read_day, told_day
from recurwright.errors import (
    BadCalendar, BadDay, BadPaper, BadRule, BadSize, BadStore, BadText, BadTime, BadZone, CalendarFault, NoDay, NoSuch,
)

COMMON = common()
SMALL = Calendar((5, 6), 0, 2, (1,), 3)
LINES = (
    "put pay 2026-1-1 09.00 30m pick month -1 (is weekday 0,1,2,3,4)",
    "put walk 2026-11-20 07.30.15 1h any (is weekday 5, every 3 days from 1)",
    "move pay 2026-11-30 08.15",
    "drop walk 2026-11-21",
    "add walk 2026-11-24",
    "put gone 2026-1-1 00.00 1s all ()",
    "take gone",
)


def desk_of(lines, calendar=None):
    desk = Desk(calendar)
    for line in lines:
        if desk.say(line) != ():
            raise ValueError(line)
    return desk


def row_of(number, line):
    """A row that is whole, as a desk would write it."""
    body = f"{number} {line}"
    total = sum(ord(sign) for sign in body) % 2000003
    weighed = sum(ord(sign) * place for place, sign in enumerate(body, 1)) % 9973
    return f"{body} {total * 9973 + weighed}\n"


class DaysTest(unittest.TestCase):
    def test_read_and_told(self):
        self.assertEqual(read_day(COMMON, "2026-11-20"), COMMON.number_of(2026, 10, 19))
        self.assertEqual(read_day(COMMON, "0002-01-0009"), COMMON.number_of(2, 0, 8))
        self.assertEqual((read_day(COMMON, "0-1-1"), read_day(SMALL, "1-1-6"), read_day(COMMON, "9999-12-31")), (0, 16, 3652424))
        self.assertEqual(told_day(COMMON, COMMON.number_of(2026, 0, 8)), "2026-1-9")
        self.assertEqual((told_day(COMMON, -1), told_day(SMALL, 16), told_day(COMMON, 3652425)), ("-1-12-31", "1-1-6", "10000-1-1"))
        for number in range(0, 3652425, 9999):
            self.assertEqual(read_day(COMMON, told_day(COMMON, number)), number)

    def test_no_day_is_written_so(self):
        for word in ("", "2026", "2026-1", "2026-1-1-1", "-1-1-1", "2026--1", "2026-1-", "-1-1", "20266-1-1", "2026-00001-1", "2026-1-x",
                     "2026.1.1", "2026-1 -1", "2026-+1-1", "2026-1-\u0661"):
            with self.assertRaises(BadText, msg=word):
                read_day(COMMON, word)

    def test_days_that_are_none(self):
        for calendar, word in ((COMMON, "2026-2-29"), (COMMON, "2026-0-1"), (COMMON, "2026-13-1"), (COMMON, "2026-1-0"),
                               (COMMON, "2026-1-32"), (COMMON, "1900-2-29"), (SMALL, "0-1-6"), (SMALL, "1-3-1"), (COMMON, "1-1-9999")):
            with self.assertRaises(BadDay):
                read_day(calendar, word)


class FiguresTest(unittest.TestCase):
    def test_known_figures(self):
        self.assertEqual((BASE, WIDE, FIGURES), (9973, 2000003, "0123456789"))
        self.assertEqual((figure_of(""), figure_of("a"), figure_of("ab"), figure_of("ba")),
                         (0, 97 * 9973 + 97, 195 * 9973 + 97 + 196, 195 * 9973 + 98 + 194))

    def test_long_texts(self):
        text = "z" * 30000
        self.assertEqual(figure_of(text), (122 * 30000 % 2000003) * 9973 + (122 * 30000 * 30001 // 2) % 9973)

    def test_one_sign_changed_changes_it(self):
        for place in range(20):
            text = "0 take walk 12345678"
            changed = text[:place] + chr(ord(text[place]) + 1) + text[place + 1:]
            self.assertNotEqual(figure_of(text), figure_of(changed))


class DeedsTest(unittest.TestCase):
    def test_fields(self):
        desk = Desk()
        self.assertEqual((desk.text, desk.many, desk.book.names(), desk.calendar.shown()), ("", 0, (), COMMON.shown()))
        self.assertEqual(desk.zone.shown(), (0, ()))
        self.assertIs(Desk(SMALL).calendar, SMALL)

    def test_put(self):
        desk = Desk()
        self.assertEqual(desk.say(LINES[0]), ())
        plan = desk.book.here("pay")
        first = COMMON.number_of(2026, 0, 0)
        self.assertEqual(plan.shown(), (9 * 3600, 1800, first, None, (), (), ()))
        self.assertEqual(plan.rule.shown(), ("pick", "month", (-1,), ("is", "weekday", (0, 1, 2, 3, 4))))
        self.assertEqual(plan.zone.shown(), (0, ()))

    def test_drop_add_move_and_take(self):
        desk = desk_of(LINES[:2])
        walk, day = desk.book.here("walk"), COMMON.number_of(2026, 10, 20)
        self.assertTrue(walk.has(day))
        self.assertEqual((desk.say("drop walk 2026-11-21"), walk.has(day)), ((), False))
        self.assertEqual((desk.say("add walk 2026-11-21"), walk.has(day)), ((), True))
        self.assertEqual((desk.say("move walk 2026-11-21 23.59.59"), walk.shown()[6]), ((), ((day, DAY - 1),)))
        self.assertEqual((desk.say("take walk"), desk.book.names()), ((), ("pay",)))
        self.assertEqual(desk.say("put walk 2026-11-20 00.00 1s any ()"), ())

    def test_written(self):
        desk = desk_of(LINES)
        self.assertEqual(desk.text, "".join(row_of(number, line) for number, line in enumerate(LINES)))
        self.assertEqual(desk.many, 7)
        self.assertEqual(desk.written(["take", "x"]), ())
        self.assertEqual((desk.text[-len(row_of(7, "take x")):], desk.many), (row_of(7, "take x"), 8))
        # Blanks are written as one; what may change something is written, though it changes nothing.
        other = Desk()
        other.say("  put   a 2026-1-1  09.00 1h   is  day   0 ")
        other.say("move a 2026-1-1 09.00")
        self.assertEqual(other.text, row_of(0, "put a 2026-1-1 09.00 1h is day 0") + row_of(1, "move a 2026-1-1 09.00"))

    def test_do_refuses_by_errors(self):
        desk = desk_of(LINES)
        for error, line in ((BadText, ""), (BadText, "hello"), (BadDay, "drop pay 2026-13-1"), (BadTime, "move pay 2026-11-30 24.00"),
                            (BadRule, "put x 2026-1-1 09.00 1h is day -1"), (NoSuch, "take nobody"), (NoDay, "nth gone 2026-1-1 0")):
            if line.startswith("nth"):
                desk.do("put gone 2026-1-1 09.00 1h any ()")
            with self.assertRaises(error) as caught:
                desk.do(line)
            self.assertIs(type(caught.exception), error)


class AnswersTest(unittest.TestCase):
    def setUp(self):
        self.desk = desk_of(LINES)

    def test_day(self):
        say = self.desk.say
        self.assertEqual(say("day 2026-11-30"), ("08.15.00 pay",))
        self.assertEqual((say("day 2026-11-21"), say("day 2026-11-24")), ((), ("07.30.15 walk",)))
        self.desk.say("put early 2026-11-1 06.00 1h is day 29")
        self.desk.say("put also 2026-11-1 08.15 30m is day 29")
        self.assertEqual(say("day 2026-11-30"), ("06.00.00 early", "08.15.00 also", "08.15.00 pay"))

    def test_next(self):
        days = ("2026-1-1", "2026-11-20", "2026-11-21", "2026-11-23", "2026-11-24", "2026-11-25", "2026-11-30")
        told = ("2026-1-30 pay", "2026-11-20 walk", "2026-11-23 walk", "2026-11-23 walk", "2026-11-24 walk", "2026-11-26 walk",
                "2026-11-30 pay")
        for day, row in zip(days, told):
            self.assertEqual(self.desk.say(f"next {day}"), (row,))
        self.desk.say("add walk 2026-11-30")
        self.assertEqual(self.desk.say("next 2026-11-30"), ("2026-11-30 pay walk",))

    def test_nth(self):
        say = self.desk.say
        self.assertEqual([say(f"nth pay 2026-11-20 {count}") for count in (0, 1, 12, -1, 1200, 1000000)],
                         [("2026-11-30",), ("2026-12-31",), ("2027-11-30",), ("2026-10-30",), ("2126-11-29",), ("85360-3-31",)])
        # The rule's day, whatever the plan's first day and its changes are.
        self.assertEqual(say("nth pay 2026-1-1 -1"), ("2025-12-31",))
        self.assertEqual(say("drop pay 2026-11-30"), ())
        self.assertEqual(say("nth pay 2026-11-20 0"), ("2026-11-30",))
        self.assertEqual(say("nth pay 0-1-1 -1"), ("-1-12-31",))

    def test_names(self):
        self.assertEqual((self.desk.say("names"), Desk().say("names")), (("pay", "walk"), ()))

    def test_answers_are_not_written(self):
        text = self.desk.text
        for line in ("day 2026-11-30", "next 2026-11-1", "nth pay 2026-1-1 7", "names", "names x"):
            self.desk.say(line)
            self.assertEqual((self.desk.text, self.desk.many), (text, 7))

    def test_answers_are_the_books(self):
        draw = random.Random(25)
        lines = ("put b 3-1-2 09.00 1h is weekday 0", "put a 3-1-2 09.00 2h is weekday 0,2", "put c 3-2-1 08.00 1m every 5 days from 2",
                 "put d 3-1-1 10.00 1m all ()", "drop d 3-2-3", "move d 3-2-4 07.00", "move d 3-2-5 23.59.59")
        for calendar in (COMMON, SMALL):
            desk = desk_of(lines, calendar)
            start = calendar.number_of(3, 0, 0)
            for number in draw.sample(range(start, start + 40), 25):
                word = told_day(calendar, number)
                day = tuple(f"{told_time(first % DAY)} {name}" for (first, last), name in desk.book.on_day(number))
                following, names = desk.book.next(number)
                self.assertEqual(desk.say(f"day {word}"), day)
                self.assertEqual(desk.say(f"next {word}"), (" ".join((told_day(calendar, following),) + names),))
                count = draw.randrange(-9, 10)
                self.assertEqual(desk.say(f"nth a {word} {count}"), (told_day(calendar, desk.book.here("a").counter.nth(number, count)),))


REFUSED = (
    ("text", "", "   ", "hello", "names pay", "day", "day 2026-1-1 x", "day 2026-1", "day x", "next", "next 2026-1-1 2026-1-1", "next -1-1-1",
     "nth", "nth pay 2026-1-1", "nth pay 2026-1-1 0 0", "nth pay 2026-1-1 x", "nth pay 2026-1-1 01", "nth pay 2026-1-1 -0",
     "nth pay 2026-1-1 12345678", "nth pay x 0", "put", "put x 2026-1-1 09.00 1h", "put x 2026-1 09.00 1h is day 0",
     "put x 2026-1-1 9.00 1h is day 0", "put x 2026-1-1 0900 1h is day 0", "put x 2026-1-1 09.00 1 is day 0",
     "put x 2026-1-1 09.00 01h is day 0", "put x 2026-1-1 09.00 1h is", "put x 2026-1-1 09.00 1h is day 0 x",
     "put x 2026-1-1 09.00 1h is hour 0", "put x 2026-1-1 09.00 1h day 0", "drop", "drop pay", "drop pay 2026-11-30 x", "drop pay 2026.11.30",
     "add pay", "add pay 2026-11-29 09.00", "add pay 11", "move pay 2026-11-30", "move pay 2026-11-30 8.00", "move pay 2026-11-30 08.00 x",
     "move pay 2026-11-3x 08.00", "take", "take pay walk", "Put x 2026-1-1 09.00 1h is day 0", "take-pay"),
    ("day", "day 2026-2-29", "next 2026-0-1", "nth pay 2026-1-32 0", "put x 2026-13-1 09.00 1h is day 0", "drop pay 2026-2-30",
     "add pay 2026-1-0", "move pay 2026-11-31 08.00"),
    ("time", "put x 2026-1-1 24.00 1h is day 0", "put x 2026-1-1 09.60 1h is day 0", "put x 2026-1-1 09.00 0s is day 0",
     "move pay 2026-11-30 08.00.60", "move pay 2026-11-30 24.00"),
    ("rule", "put x 2026-1-1 09.00 1h is day -1", "put x 2026-1-1 09.00 1h every 0 years from 0",
     "put x 2026-1-1 09.00 1h every 7001 years from 0"),
    ("no day", "nth never 2026-1-1 0"),
    ("no such", "drop nobody 2026-1-1", "drop pay 2026-11-29", "add nobody 2026-1-1", "add pay 2026-11-30", "move nobody 2026-1-1 08.00",
     "move pay 2026-11-29 08.00", "take nobody", "nth nobody 2026-1-1 0", "put pay 2026-1-1 09.00 1h is day 0", "drop nobody 2026-13-1"),
)


class RefusedTest(unittest.TestCase):
    def test_each_refusal_is_its_own_and_changes_nothing(self):
        desk = desk_of(LINES + ("put never 2026-1-1 09.00 1h any ()",))
        text = desk.text
        shown = {name: plan.shown() for name, plan in desk.book.plans.items()}
        for word, *lines in REFUSED:
            for line in lines:
                self.assertEqual(desk.say(line), (f"error: {word}",), line)
                self.assertEqual((desk.text, desk.many), (text, 8), line)
                self.assertEqual({name: plan.shown() for name, plan in desk.book.plans.items()}, shown)
        # Apart, on a desk on which nothing else was refused, and behind others in any order.
        rows = [(word, line) for word, *lines in REFUSED for line in lines]
        random.Random(1).shuffle(rows)
        for word, line in rows:
            self.assertEqual(desk.say(line), (f"error: {word}",), line)
        self.assertEqual(done_again(desk.text).text, text)

    def test_nothing_comes_any_more(self):
        desk = Desk()
        self.assertEqual((desk.say("next 2026-1-1"), desk.say("day 2026-1-1")), (("error: no day",), ()))
        desk.say("put never 2026-1-1 09.00 1h any ()")
        self.assertEqual(desk.say("next 2026-1-1"), ("error: no day",))

    def test_words_of_all_kinds(self):
        kinds = {BadText: "text", BadDay: "day", BadTime: "time", BadRule: "rule", BadZone: "zone", BadSize: "size", BadPaper: "paper",
                 NoDay: "no day", NoSuch: "no such"}
        for kind, word in kinds.items():
            class Refusing(Desk):
                def do(self, line):
                    raise kind("no")
            self.assertEqual(Refusing().say("names"), (f"error: {word}",))


class DoneAgainTest(unittest.TestCase):
    def setUp(self):
        self.text = desk_of(LINES).text

    def asked(self, desk):
        return [desk.say(line) for line in ("names", "day 2026-11-30", "day 2026-11-24", "next 2026-11-21", "next 2026-11-27",
                                            "nth pay 2026-1-1 77", "nth walk 2026-1-1 -77", "day 2026-11-21")]

    def test_answers_alike(self):
        desk = desk_of(LINES)
        again = done_again(desk.text)
        self.assertEqual((again.text, again.many, self.asked(again)), (desk.text, desk.many, self.asked(desk)))
        for line in ("drop pay 2026-11-30", "put gone 2026-1-1 00.00 1s all ()", "take nobody"):
            self.assertEqual(again.say(line), desk.say(line))
        self.assertEqual((again.text, self.asked(again)), (desk.text, self.asked(desk)))
        self.assertEqual((done_again("").text, done_again("").many), ("", 0))

    def test_lines(self):
        self.assertEqual(lines_of(self.text), LINES)
        self.assertEqual((lines_of(""), lines_of("0 take")), ((), ()))
        self.assertEqual(lines_of(self.text + "7 take walk 1234"), LINES)

    def test_cut_anywhere(self):
        for size in range(len(self.text)):
            text = self.text[:size]
            many = text.count("\n")
            self.assertEqual(lines_of(text), LINES[:many])
        for size in range(0, len(self.text), 9):
            many = self.text[:size].count("\n")
            desk = done_again(self.text[:size])
            self.assertEqual((desk.many, desk.text), (many, "".join(row_of(k, LINES[k]) for k in range(many))))

    def test_anything_changed(self):
        draw = random.Random(26)
        for place in [place for place, sign in enumerate(self.text) if sign != "\n"]:
            sign = draw.choice([other for other in "0123456789 ax" if other != self.text[place]])
            text = self.text[:place] + sign + self.text[place + 1:]
            for refused in (lines_of, done_again) if place % 40 == 0 else (lines_of,):
                with self.assertRaises(BadStore, msg=text):
                    refused(text)

    def test_rows_that_are_not_whole(self):
        rows = self.text.split("\n")[:-1]
        for bad in (rows[1:], rows[::-1], rows[:1] + rows[2:], rows[:2] + rows[1:], [""] + rows, rows[:3] + [""] + rows[3:],
                    [row[1:] for row in rows], [" " + row for row in rows], [row + " " for row in rows], ["0"], ["0 0"], ["0 take x"],
                    ["00" + rows[0][1:]]):
            with self.assertRaises(BadStore, msg=bad):
                lines_of("\n".join(bad) + "\n")
        with self.assertRaises(BadStore):
            lines_of(self.text.replace("\n", "\n\n", 1))

    def test_whole_rows_that_cannot_be(self):
        put = row_of(0, "put a 2026-1-1 09.00 1h is day 0")
        self.assertEqual(done_again(put).book.names(), ("a",))
        for text in (row_of(0, "take a"), put + row_of(1, "put a 2026-1-1 09.00 1h is day 0"), row_of(0, "hello"), row_of(0, ""),
                     put + row_of(1, "drop a 2026-1-2"), put + row_of(1, "drop a 2026-2-30"), row_of(0, "names"), put + row_of(1, "names"),
                     put + row_of(1, "day 2026-1-1"), row_of(0, "put  a 2026-1-1 09.00 1h is day 0"), put + row_of(1, "next 2026-1-1")):
            with self.assertRaises(BadStore, msg=text):
                done_again(text)

    def test_other_calendars(self):
        lines = ("put a 1-1-6 09.00 1h is weekday 0,1", "drop a 1-1-6")
        desk = desk_of(lines, SMALL)
        again = done_again(desk.text, SMALL)
        self.assertEqual((again.text, again.say("next 1-1-1"), again.calendar.shown()), (desk.text, desk.say("next 1-1-1"), SMALL.shown()))
        with self.assertRaises(BadStore):
            done_again(desk_of(("put a 2026-1-31 09.00 1h is day 0",)).text, SMALL)

    def test_any_lines_said(self):
        draw = random.Random(27)
        for calendar in (COMMON, SMALL):
            for _ in range(4):
                desk = Desk(calendar)
                for _ in range(60):
                    desk.say(self.some_line(draw, calendar))
                again = done_again(desk.text, calendar)
                self.assertEqual((again.text, again.many), (desk.text, desk.many))
                for name in desk.book.names():
                    self.assertEqual(again.book.here(name).shown(), desk.book.here(name).shown())
                for number in range(0, 40):
                    word = told_day(calendar, number)
                    self.assertEqual(again.say(f"day {word}"), desk.say(f"day {word}"))
                    self.assertEqual(again.say(f"next {word}"), desk.say(f"next {word}"))

    def some_line(self, draw, calendar):
        name, day = draw.choice("abc"), told_day(calendar, draw.randrange(30))
        rule = draw.choice(("is weekday 0,1", "every 3 days from 1", "any ()", "not (is day 0)", "is day -1"))
        return draw.choice((
            f"put {name} {day} 0{draw.randrange(10)}.30 {draw.randrange(3)}h {rule}", f"drop {name} {day}", f"add {name} {day}",
            f"move {name} {day} 1{draw.randrange(10)}.00", f"take {name}" if draw.random() < 0.3 else f"add {name} {day}", "names", "x"))
