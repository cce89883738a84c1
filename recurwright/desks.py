"""Desks: lines said to a book of plans of the common calendar, answered, written down and done again."""

from recurwright.books import Book
from recurwright.calendars import common
from recurwright.clocks import DAY, read_length, read_time, told_time
from recurwright.errors import BadDay, BadPaper, BadRule, BadSize, BadText, BadTime, BadZone, NoDay, NoSuch
from recurwright.errors import BadStore, CalendarFault
from recurwright.plans import Plan
from recurwright.words import read, whole
from recurwright.zones import Zone

FIGURES = "0123456789"
BASE = 9973
WIDE = 2000003
DEEDS = ("put", "drop", "add", "move", "take")


def read_day(calendar, word):
    """Return the number of a day written year-month-day, months and days from one on; BadText, BadDay."""
    parts = word.split("-")
    if len(parts) != 3 or any([not 0 < len(part) < 5 or part.strip(FIGURES) != "" for part in parts]):
        raise BadText("no day is written so")
    year, month, day = [int(part) for part in parts]
    return calendar.number_of(year, month - 1, day - 1)


def told_day(calendar, number):
    """Return a day as year-month-day, months and days from one on."""
    year, month, day = calendar.date(number)
    return f"{year}-{month + 1}-{day + 1}"


def told_row(span, name):
    """Return the time of day at which a span begins, and a name."""
    time = told_time(span[0] % DAY)
    return f"{time} {name}"


def figure_of(text):
    """Return a text's figure: its signs' numbers added up, then weighed by their places from one on."""
    numbers = [ord(sign) for sign in text]
    weighed = sum([number * place for place, number in enumerate(numbers, 1)])
    return sum(numbers) % WIDE * BASE + weighed % BASE


class Desk:
    """A calendar, the one time's zone, a book, and the text of what was done."""

    def __init__(self, calendar=None):
        self.calendar = common() if calendar is None else calendar
        self.zone = Zone(0)
        self.book = Book()
        self.text = ""
        self.many = 0

    def say(self, line):
        """Do or answer a line; return a tuple of the answer's lines, ("error: ...",) for what is refused."""
        try:
            return self.do(line)
        except BadText:
            return ("error: text",)
        except BadDay:
            return ("error: day",)
        except BadTime:
            return ("error: time",)
        except BadRule:
            return ("error: rule",)
        except BadZone:
            return ("error: zone",)
        except BadSize:
            return ("error: size",)
        except BadPaper:
            return ("error: paper",)
        except NoDay:
            return ("error: no day",)
        except NoSuch:
            return ("error: no such",)

    def do(self, line):
        """Do or answer a line by its first word; what changes something is written down; BadText."""
        words = line.split()
        if words == []:
            raise BadText("a bare line")
        if words[0] not in DEEDS:
            return self.answer(words)
        self.change(words)
        return self.written(words)

    def change(self, words):
        """Do a deed; BadText for words too many or too few."""
        kind = words[0]
        many = len(words)
        if kind == "put" and many > 5:
            self.put(words)
        elif kind == "drop" and many == 3:
            self.book.here(words[1]).drop(read_day(self.calendar, words[2]))
        elif kind == "add" and many == 3:
            self.book.here(words[1]).add(read_day(self.calendar, words[2]))
        elif kind == "move" and many == 4:
            plan = self.book.here(words[1])
            plan.move(read_day(self.calendar, words[2]), read_time(words[3]))
        elif kind == "take" and many == 2:
            self.book.take(words[1])
        else:
            raise BadText("words too many or too few")

    def put(self, words):
        """Put a plan in: its name, first day, time, length and its rule's words."""
        first = read_day(self.calendar, words[2])
        time = read_time(words[3])
        length = read_length(words[4])
        rule = read(" ".join(words[5:]))
        self.book.put(words[1], Plan(self.calendar, rule, time, length, self.zone, first))

    def answer(self, words):
        """Return what a day has, what comes next, a plan's n-th day from one on, or the names; BadText."""
        many = len(words)
        kind = "" if many == 0 else words[0]
        if kind == "day" and many == 2:
            rows = self.book.on_day(read_day(self.calendar, words[1]))
            return tuple([told_row(span, name) for span, name in rows])
        if kind == "next" and many == 2:
            day, names = self.book.next(read_day(self.calendar, words[1]))
            return (" ".join([told_day(self.calendar, day)] + list(names)),)
        if kind == "nth" and many == 4:
            plan = self.book.here(words[1])
            day = plan.counter.nth(read_day(self.calendar, words[2]), whole(words[3]))
            return (told_day(self.calendar, day),)
        if kind == "names" and many == 1:
            return self.book.names()
        raise BadText("no line is said so")

    def written(self, words):
        """Write a done line with its number and figure; return no lines."""
        body = " ".join([str(self.many)] + list(words))
        self.text = self.text + body + " " + str(figure_of(body)) + "\n"
        self.many += 1
        return ()


def rows_of(text):
    """Return a text's rows, one without an end left out."""
    return text.split("\n")[:-1]


def lines_of(text):
    """Return the lines of a written text, a row without an end left out; BadStore."""
    lines = []
    for place, row in enumerate(rows_of(text)):
        body, _, figure = row.rpartition(" ")
        head, _, line = body.partition(" ")
        if head != str(place) or figure != str(figure_of(body)):
            raise BadStore("the row isn't whole")
        lines.append(line)
    return tuple(lines)


def done_again(text, calendar=None):
    """Return the desk that a text's lines make from nothing; BadStore for what can't be."""
    desk = Desk(calendar)
    lines = lines_of(text)
    for line in lines:
        try:
            desk.do(line)
        except CalendarFault:
            raise BadStore("a line that was refused was never written") from None
    # A line that changes nothing, or has other blanks, was never written either.
    if desk.text != "".join([row + "\n" for row in rows_of(text)]):
        raise BadStore("no desk writes this text")
    return desk
