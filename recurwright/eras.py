"""Eras: days told by two calendars, years told by reigns, and when both calendars begin something together."""

from recurwright.calendars import count_below
from recurwright.days import Day
from recurwright.errors import BadSize, NoDay, NoSuch


class Pair:
    """Two calendars, and which number of the second one the first one's day nought has."""

    def __init__(self, one, other, offset):
        self.one = one
        self.other = other
        self.offset = offset

    def across(self, year, month, day):
        """Return the second calendar's (year, month, day) of a date of the first; BadDay."""
        return self.other.date(self.one.number_of(year, month, day) + self.offset)

    def back(self, year, month, day):
        """Return the first calendar's (year, month, day) of a date of the second; BadDay."""
        return self.one.date(self.other.number_of(year, month, day) - self.offset)

    def both_begin(self, number, unit, most):
        """Return the first day from one on on which both begin a "year" or a "month"; NoDay, NoSuch for another unit.

        Only so many of the first one's months are gone through, the one that the day is in too.
        """
        if unit not in ("year", "month"):
            raise NoSuch("no such unit")
        start = Day(self.one, number).month_number()
        for place in range(start, start + most):
            year, month = divmod(place, len(self.one.months))
            # A year begins with its first month only.
            if unit == "month" or month == 0:
                here = self.one.number_of(year, month, 0)
                if here >= number and begins(self.other, here + self.offset, unit):
                    return here
        raise NoDay("both begin it on none of these days")


def begins(calendar, number, unit):
    """Tell whether a day is the first of a year or of a month."""
    _, month, day = calendar.date(number)
    return day == 0 and (unit == "month" or month == 0)


class Reigns:
    """Names of reigns and the numbers of their first days, rising."""

    def __init__(self, rows):
        self.rows = tuple([tuple(row) for row in rows])
        self.firsts = [first for name, first in self.rows]
        if self.rows == () or any([self.firsts[k] <= self.firsts[k - 1] for k in range(1, len(self.firsts))]):
            raise BadSize("no reigns, or their first days don't rise")

    def reign(self, number):
        """Return the place of the reign of a day; NoSuch ahead of all."""
        found = count_below(self.firsts, number + 1)
        if found == 0:
            raise NoSuch("the day is ahead of all reigns")
        return found - 1

    def told(self, calendar, number):
        """Return (reign's name, year in it, month, day), a reign's first calendar year being its year one; NoSuch."""
        name, first = self.rows[self.reign(number)]
        year, month, day = calendar.date(number)
        return name, year - calendar.year_of(first) + 1, month, day

    def day_number(self, calendar, name, year, month, day):
        """Return the day of a date by a reign; NoSuch for no reign, or a date that isn't in it, or is none there."""
        for place, (reign, first) in enumerate(self.rows):
            if reign == name:
                there = calendar.year_of(first) + year - 1
                if 0 <= day < calendar.month_days(there, month):
                    number = calendar.number_of(there, month, day)
                    if self.is_in(number, place):
                        return number
        raise NoSuch("no reign of this name has this date")

    def is_in(self, number, place):
        """Tell whether a day is in the reign at a place."""
        return count_below(self.firsts, number + 1) == place + 1

    def years_of(self, calendar, place):
        """Return how many calendar years a reign that ended was in; NoSuch for another."""
        if not 0 <= place < len(self.rows) - 1:
            raise NoSuch("no reign that ended stands there")
        last = self.firsts[place + 1] - 1
        return calendar.year_of(last) - calendar.year_of(self.firsts[place]) + 1
