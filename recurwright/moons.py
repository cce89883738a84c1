"""Moons: months of a mean length, told exactly, and years of as many of them as begin in a mean year."""

from recurwright.errors import BadCalendar, BadDay

PART = 10000


class Moons:
    """A month's and a year's mean length, (days, by how many), and the parts of a day by which moon nought is ahead."""

    def __init__(self, month, year, lead=0):
        self.month = tuple(month)
        self.year = tuple(year)
        self.lead = lead
        days, by = self.month
        year_days, year_by = self.year
        if min(self.month + self.year) < 1 or not 0 <= lead < PART or days * year_by >= year_days * by:
            raise BadCalendar("no such lengths, no such lead, or a month as long as a year")
        if days < by:
            raise BadCalendar("a month of less than a day")

    def first_day(self, moon):
        """Return the number of a month's first day: the day in which its mean beginning lies."""
        days, by = self.month
        return (moon * days * PART + self.lead * by) // (by * PART)

    def moon_of(self, number):
        """Return the month that a day is in."""
        # The greatest month whose mean beginning lies ahead of the next day.
        days, by = self.month
        return ((number + 1) * by * PART - self.lead * by - 1) // (days * PART)

    def days_in(self, moon):
        """Return how many days a month has."""
        return self.first_day(moon + 1) - self.first_day(moon)

    def first_moon(self, year):
        """Return a year's first month: the first that begins on or behind the day in which the mean year begins."""
        days, by = self.year
        return self.moon_of(year * days // by - 1) + 1

    def moons_in(self, year):
        """Return how many months a year has."""
        return self.first_moon(year + 1) - self.first_moon(year)

    def year_of(self, moon):
        """Return the year that a month is in."""
        # The greatest year whose mean beginning lies ahead of the day behind the month's first.
        days, by = self.year
        return ((self.first_day(moon) + 1) * by - 1) // days

    def date(self, number):
        """Return (year, month in it, day in it) of a day, all from nought on."""
        moon = self.moon_of(number)
        year = self.year_of(moon)
        return year, moon - self.first_moon(year), number - self.first_day(moon)

    def number_of(self, year, month, day):
        """Return the day of a date; BadDay."""
        if not 0 <= month < self.moons_in(year):
            raise BadDay("the year has no such month")
        moon = self.first_moon(year) + month
        if not 0 <= day < self.days_in(moon):
            raise BadDay("the month has no such day")
        return self.first_day(moon) + day

    def most_moons(self, first, last):
        """Return the years, from one to another, both too, with the most months, in order."""
        years = range(first, last + 1)
        most = max([self.moons_in(year) for year in years], default=0)
        return tuple([year for year in years if self.moons_in(year) == most])


def lengths(moons, first, last):
    """Return a table of days that months have, from one on, ahead of another, to how many have so many."""
    table = {}
    for moon in range(first, last):
        days = moons.days_in(moon)
        table[days] = table.get(days, 0) + 1
    return table


def is_even(moons, first, many):
    """Tell whether months from one on take but two lengths, and any so many on end but two lengths in all."""
    return has_two(moons, 1) and has_two(moons, many)


def has_two(moons, many):
    """Tell whether so many months on end have but two lengths in all, whichever of them is the first."""
    # Beginnings are rounded down: a length in all is the mean one rounded down or up, wherever it begins.
    days, by = moons.month
    least = days * many // by
    most = -(-days * many // by)
    return most - least <= 1
