"""Promise 15: rules in words, told and read; of promise 1, a rule's days for ever with its words and papers."""

import random
import unittest

from recurwright.calendars import common
from recurwright.counts import Counter, check_papers
from recurwright.errors import BadPaper, BadRule, BadText
from recurwright.rules import PARTS, STEPS, All, Any, Every, Is, Moved, Not, Pick, always, never
from recurwright.words import Reader, numbers_told, read, told, whole, words_of
from tests.support import all_calendars, small_calendars, some_rule

MONDAYS = Is("weekday", (0,))

TOLD = [
    (MONDAYS, "is weekday 0"),
    (Is("year back", (4, 0, 52)), "is year-back 0,4,52"),
    (Is("nth back", (1234567,)), "is nth-back 1234567"),
    (Every("weeks", 2, -5), "every 2 weeks from -5"),
    (Every("days", 9999999, -9999999), "every 9999999 days from -9999999"),
    (Not(MONDAYS), "not (is weekday 0)"),
    (Moved(MONDAYS, -3), "moved -3 (is weekday 0)"),
    (Moved(Not(MONDAYS), 0), "moved 0 (not (is weekday 0))"),
    (Pick(MONDAYS, "month", (-1, 0, -1)), "pick month -1,0,-1 (is weekday 0)"),
    (Pick(always(), "year", (255,)), "pick year 255 (all ())"),
    (All(()), "all ()"),
    (Any(()), "any ()"),
    (All((MONDAYS,)), "all (is weekday 0)"),
    (Any((MONDAYS, All((never(), MONDAYS)), Every("years", 4, 0))),
     "any (is weekday 0, all (any (), is weekday 0), every 4 years from 0)"),
]


class ToldTest(unittest.TestCase):
    def test_each_kind(self):
        for rule, text in TOLD:
            self.assertEqual(told(rule), text)
            self.assertEqual(words_of(rule.shown()), text)
            self.assertEqual(read(text).shown(), rule.shown())

    def test_each_part_and_unit(self):
        for part in PARTS:
            self.assertEqual(told(Is(part, (1,))), "is " + part.replace(" ", "-") + " 1")
            self.assertEqual(read(told(Is(part, (1,)))).part, part)
        for unit in STEPS:
            self.assertEqual(read(f"every 3 {unit} from 1").shown(), ("every", unit, 3, 1))

    def test_numbers_told(self):
        self.assertEqual(numbers_told((1, -2, 30)), "1,-2,30")
        self.assertEqual(numbers_told([5]), "5")
        self.assertEqual(numbers_told(()), "")

    def test_told_and_read_is_the_same_rule(self):
        draw = random.Random(15)
        for calendar in all_calendars():
            for _ in range(60):
                rule = some_rule(draw, calendar, 4)
                again = read(told(rule))
                self.assertEqual(again.shown(), rule.shown())
                self.assertEqual(type(again), type(rule))
                self.assertEqual(told(again), told(rule))

    def test_days_for_ever_by_words_and_papers(self):
        draw = random.Random(16)
        for calendar in small_calendars():
            for _ in range(12):
                rule = some_rule(draw, calendar, 3)
                counter, again = Counter(calendar, rule), Counter(calendar, read(told(rule)))
                self.assertEqual(again.papers(), counter.papers())
                self.assertEqual(check_papers(calendar, read(told(rule)), counter.papers()), counter.in_period())
                if counter.in_period() > 0:
                    self.assertEqual(again.nth(-77, 10 ** 9), counter.nth(-77, 10 ** 9))
                    with self.assertRaises(BadPaper):
                        check_papers(calendar, read(told(Not(rule))), counter.papers())


class ReadTest(unittest.TestCase):
    def test_more_blanks(self):
        for rule, text in TOLD:
            self.assertEqual(read(text.replace(" ", "   ")).shown(), rule.shown())

    def test_blanks_round_an_opening_bracket(self):
        for rule, text in TOLD:
            for ahead in ("", " ", "  "):
                for behind in ("", " ", "   "):
                    spaced = text.replace(" (", ahead + "(" + behind)
                    self.assertEqual(read(spaced).shown(), rule.shown(), spaced)

    def test_blanks_elsewhere(self):
        for text in (" is weekday 0", "is weekday 0 ", "is weekday 0, 1", "is weekday 0 ,1", "is year back 0", "is year -back 0",
                     "isweekday 0", "is weekday0", "every 1 0 days from 0", "every 2days from 0", "moved - 3 (all ())",
                     "not (is weekday 0 )", "all (is day 0 , is day 1)", "all (is day 0,is day 1)", "all (any () , any ())",
                     "all (any (),any ())", "not (all () )", "any (not (is day 0 ), all ())",
                     "any (not (is day 0) , all ())", "all () ", " all ()", "", " ", "   ", "all (is day 0, is day 1 )",
                     "is\tday 0", "is day\n0", "all (is day 0, )", "all (is day 0,  , is day 1)"):
            with self.assertRaises(BadText, msg=repr(text)):
                read(text)

    def same_or_refused(self, text):
        """A text is refused, or it is just how what is read from it is told, but for the numbers' order."""
        try:
            words = [[sorted(set(word.split(","))) for word in each.split(" ")] for each in (told(read(text)), text)]
            self.assertEqual(words[0], words[1])
        except (BadText, BadRule):
            return

    def test_words_cut_or_changed(self):
        for rule, text in TOLD:
            for place in range(len(text)):
                if text.endswith(")"):
                    with self.assertRaises(BadText, msg=text[:place]):
                        read(text[:place])
                self.same_or_refused(text[:place].strip(" "))
                for sign in ("x", "(", ")", ",", "-", "%", "\u00b2"):
                    self.same_or_refused(text[:place] + sign + text[place + 1:])

    def test_no_rule(self):
        for text in ("weekday 0", "Is weekday 0", "IS weekday 0", "is week 0", "is 0", "is weekday", "is weekday x", "is weekday 0 0",
                     "is weekday 0 is weekday 1", "every days 2 from 0", "every 2 day from 0", "every 2 days to 0",
                     "every 2 days from", "every 2 days 0", "every 2 days from 0,1", "not is weekday 0", "not ()",
                     "not (all (), all ())", "moved (all ())", "moved 3", "moved 1,2 (all ())", "pick day 0 (all ())",
                     "pick months 0 (all ())", "pick month (all ())", "pick month 0", "pick month 0 all ()", "all", "all (",
                     "all )", "all ())", "all (,)", "all (, is day 0)", "all (is day 0,)", "all (is day 0 is day 1)",
                     "all ((is day 0))", "(is day 0)", "(all ())", "all () all ()", "any (is day 0)) ", "none ()", "-", ","):
            with self.assertRaises(BadText, msg=text):
                read(text)

    def test_numbers(self):
        self.assertEqual([whole(word) for word in ("0", "7", "-7", "1234567", "-9999999")], [0, 7, -7, 1234567, -9999999])
        for word in ("", "-", "--1", "+1", "-0", "00", "01", "-01", "12345678", "-12345678", "1.0", "1e3", "1_0", " 1", "1 ",
                     "x", "1x", "\u0661", "\u00b2", "1-", "1,2"):
            with self.assertRaises(BadText, msg=word):
                whole(word)
            if " " not in word:
                for text in (f"moved {word} (all ())", f"every 2 days from {word}", f"every {word} days from 0"):
                    with self.assertRaises(BadText, msg=text):
                        read(text)
        for numbers in (",", "1,", ",1", "1,,2", "1,x", "1,02"):
            with self.assertRaises(BadText):
                read("is day " + numbers)

    def test_rules_that_cannot_be(self):
        for text in ("is weekday -1", "is weekday 3,-1", "every 0 days from 1", "every -2 weeks from 1",
                     "not (every 0 days from 0)", "all (is day 0, is day -1)", "pick month 0 (is day -1)"):
            with self.assertRaises(BadRule, msg=text):
                read(text)


class ReaderTest(unittest.TestCase):
    def test_signs_one_by_one(self):
        reader = Reader("all (is day 0, not (is day 1,2))")
        self.assertIsInstance(reader.signs, list)
        self.assertEqual(reader.place, 0)
        signs = []
        while reader.here() != "":
            self.assertEqual(reader.here(), reader.here())
            signs.append(reader.take())
        self.assertEqual(signs, ["all", "(", "is", "day", "0", ",", "not", "(", "is", "day", "1,2", ")", ")"])
        with self.assertRaises(BadText):
            reader.take()
        self.assertEqual(Reader("").here(), "")

    def test_takes(self):
        reader = Reader("from 12 -3,4 (is day 0) (any (), is day 1) () is day 5")
        self.assertEqual(reader.take("from"), "from")
        self.assertEqual(reader.take_number(), 12)
        self.assertEqual(reader.take_numbers(), [-3, 4])
        self.assertEqual(reader.inner().shown(), ("is", "day", (0,)))
        self.assertEqual([rule.shown() for rule in reader.row()], [("any", ()), ("is", "day", (1,))])
        self.assertEqual(reader.row(), [])
        self.assertEqual(reader.take_rule().shown(), ("is", "day", (5,)))
        self.assertEqual(reader.here(), "")

    def test_what_is_refused_changes_nothing(self):
        for text in ("x y", "is day x", "all (is day 0", "not (is day -1)", "every 2 weeks form 0", "(is day 0, x)", "(is day 0",
                     "pick year 0 (is day 0,", "(every 0 days from 0)", "any (is day 0, all (is day 1, moved x))", ""):
            reader = Reader(text)
            refused = [lambda: reader.take("z"), reader.take_number, reader.take_numbers, reader.take_rule, reader.inner]
            if text != "(is day 0)":
                refused.append(reader.row)
            for call in refused:
                with self.assertRaises((BadText, BadRule), msg=text):
                    call()
                self.assertEqual(reader.place, 0)
