"""Spells: years, months, days and seconds together, added to days and times, and written."""

from recurwright.clocks import DAY, FIGURES, read_length, told_length
from recurwright.days import Day, months_on
from recurwright.errors import BadText, BadTime

LETTERS = "ynd"


class Spell:
    """Months, days and seconds, each nought or more."""

    def __init__(self, months=0, days=0, seconds=0):
        if min(months, days, seconds) < 0:
            raise BadTime("a part of the spell is below nought")
        self.months = months
        self.days = days
        self.seconds = seconds

    def shown(self):
        """Return (months, days, seconds)."""
        return self.months, self.days, self.seconds

    def is_bare(self):
        """Tell whether it is nothing."""
        return self.shown() == (0, 0, 0)


def plus(one, other):
    """Return the spell of two, part by part."""
    return Spell(one.months + other.months, one.days + other.days, one.seconds + other.seconds)


def times(spell, many):
    """Return a spell so often; BadTime below nought."""
    return Spell(spell.months * many, spell.days * many, spell.seconds * many)


def on(calendar, local, spell):
    """Return the local time a spell on: months first, held at a month's end, then days, then seconds."""
    number, time = divmod(local, DAY)
    day = months_on(Day(calendar, number), spell.months)
    return (day.number + spell.days) * DAY + time + spell.seconds


def row_of(calendar, local, spell, many):
    """Return so many local times: each so many spells on from the first one, not from the one ahead."""
    return tuple([on(calendar, local, times(spell, place)) for place in range(many)])


def told_spell(calendar, spell):
    """Return a spell as years and months, days, and a length, letters behind, those of nought left out."""
    if spell.is_bare():
        return "0d"
    years, months = divmod(spell.months, len(calendar.months))
    numbers = (years, months, spell.days)
    words = [f"{number}{letter}" for number, letter in zip(numbers, LETTERS) if number > 0]
    if spell.seconds > 0:
        words.append("t" + told_length(spell.seconds))
    return "".join(words)


def read_spell(calendar, text):
    """Return the spell of a text told so; BadText."""
    head, mark, rest = text.partition("t")
    if mark == "t" and rest == "" or text == "":
        raise BadText("a bare spell")
    years, months, days = read_parts(head)
    seconds = read_length(rest) if mark == "t" else 0
    return Spell(years * len(calendar.months) + months, days, seconds)


def read_parts(text):
    """Return [years, months, days] of a text, each letter once at most, in order, none too; BadText."""
    numbers = [0, 0, 0]
    last = -1
    left = text
    while left != "":
        tail = left.lstrip(FIGURES)
        figures = left[:len(left) - len(tail)]
        place = LETTERS.find(tail[:1])
        if tail == "" or place <= last or not 0 < len(figures) < 6 or figures != str(int(figures)):
            raise BadText("no spell is written so")
        numbers[place] = int(figures)
        last = place
        left = tail[1:]
    return numbers


def most_between(calendar, first, last):
    """Return the spell from a local time to a later one: the most whole months, then days, then seconds; BadTime."""
    if last < first:
        raise BadTime("the second time is ahead of the first")
    months = Day(calendar, last // DAY).month_number() - Day(calendar, first // DAY).month_number()
    if on(calendar, first, Spell(months)) > last:
        months -= 1
    days, seconds = divmod(last - on(calendar, first, Spell(months)), DAY)
    return Spell(months, days, seconds)
