"""Counts: how many of a rule's days there are between any two days, and the n-th one, without going through them."""

from recurwright.calendars import count_below
from recurwright.days import Day
from recurwright.errors import BadPaper, BadRule, BadSize, NoDay
from recurwright.rules import unit_of

MOST = 6000


def shared(one, other):
    """Return the greatest number that goes into both."""
    while other != 0:
        one, other = other, one % other
    return abs(one)


def cycles_of(calendar, unit, count):
    """Return the least number of cycles after which a count by a unit comes again."""
    many = calendar.cycle_days()
    if unit == "weeks":
        # A cycle needs no whole number of weeks: weeks are counted as their days.
        count = count * calendar.week
    elif unit == "months":
        many = calendar.cycle * len(calendar.months)
    elif unit == "years":
        many = calendar.cycle
    return count // shared(many, count)


def period_of(calendar, rule):
    """Return the years after which a rule's days come again, a whole number of cycles; BadRule past the most."""
    times = cycles_of(calendar, "weeks", 1)
    for unit, count in rule.steps():
        cycles = cycles_of(calendar, unit, count)
        times = times * cycles // shared(times, cycles)
    if times * calendar.cycle > MOST:
        raise BadRule("the rule's days come again too late")
    return times * calendar.cycle


def away_of(calendar, rule):
    """Return how many years on both sides a rule's days may hang on, by a year's least days."""
    # The mean of a cycle's years, rounded down, is the least: no year has more than one day more.
    least = calendar.cycle_days() // calendar.cycle
    return (rule.reach(calendar) + least - 1) // least


def sign_of(calendar, rule, year):
    """Return what a rule's days in a year hang on: its first weekday, which years are long, and where counts stand."""
    away = away_of(calendar, rule)
    first = Day(calendar, calendar.first_of(year))
    long_ones = [1 if calendar.is_long(near) else 0 for near in range(year - away, year + away + 1)]
    stands = [unit_of(first, unit) % count for unit, count in rule.steps()]
    return tuple([first.weekday] + long_ones + stands)


def year_places(calendar, rule, year):
    """Return the places in a year of a rule's days, by going through them."""
    first = calendar.first_of(year)
    places = range(calendar.year_days(year))
    return tuple([place for place in places if rule.has(Day(calendar, first + place))])


class Counter:
    """A calendar, a rule, the places of its days in each kind of year, and how many come ahead of each year's first."""

    def __init__(self, calendar, rule):
        self.calendar = calendar
        self.rule = rule
        self.period = period_of(calendar, rule)
        self.kinds = {}
        self.signs = []
        self.sums = [0]
        for year in range(self.period):
            sign = sign_of(calendar, rule, year)
            if sign not in self.kinds:
                self.kinds[sign] = year_places(calendar, rule, year)
            self.signs.append(sign)
            self.sums.append(self.sums[year] + len(self.kinds[sign]))

    def places_in(self, year):
        """Return the places in a year of the rule's days."""
        return self.kinds[self.signs[year % self.period]]

    def in_period(self):
        """Return how many days the rule has in a period."""
        return self.sums[self.period]

    def ahead_of_year(self, year):
        """Return how many of the rule's days come from year nought on ahead of a year, below nought back."""
        times, place = divmod(year, self.period)
        return times * self.in_period() + self.sums[place]

    def ahead(self, number):
        """Return how many of the rule's days come from day nought on ahead of a day, below nought ahead of it."""
        year = self.calendar.year_of(number)
        place = number - self.calendar.first_of(year)
        return self.ahead_of_year(year) + count_below(self.places_in(year), place)

    def between(self, first, last):
        """Return how many of the rule's days there are from a day on, ahead of another; BadSize backwards."""
        if last < first:
            raise BadSize("the second day is ahead of the first")
        return self.ahead(last) - self.ahead(first)

    def at(self, count):
        """Return the number of the rule's day that has so many ahead of it, from day nought on; NoDay for no days."""
        if self.in_period() == 0:
            raise NoDay("the rule has no day")
        times, rest = divmod(count, self.in_period())
        place = count_below(self.sums, rest + 1) - 1
        year = times * self.period + place
        return self.calendar.first_of(year) + self.places_in(year)[rest - self.sums[place]]

    def nth(self, number, many):
        """Return the number of the rule's many-th day from a day on, nought the first; below nought back; NoDay."""
        return self.at(self.ahead(number) + many)

    def next(self, number):
        """Return the number of the rule's first day from a day on; NoDay for none ever."""
        return self.nth(number, 0)

    def last_ahead(self, number):
        """Return the number of the rule's last day ahead of a day; NoDay for none ever."""
        return self.nth(number, -1)

    def days_between(self, first, last):
        """Return the numbers of the rule's days from a day on, ahead of another."""
        many = self.between(first, last)
        start = self.ahead(first)
        return tuple([self.at(count) for count in range(start, start + many)])

    def papers(self):
        """Return (period in years, a table of kinds of years to places): what the rule's days are for ever."""
        return self.period, {sign: self.kinds[sign] for sign in self.kinds}


def check_papers(calendar, rule, papers):
    """Return how many days a rule has in a period where each kind of year has just the places told; BadPaper."""
    period, kinds = papers
    if period < 1 or period % period_of(calendar, rule) != 0:
        raise BadPaper("no period of the rule")
    checked = {}
    many = 0
    for year in range(period):
        sign = sign_of(calendar, rule, year)
        if sign not in kinds:
            raise BadPaper("a kind of year is untold")
        if sign not in checked:
            if tuple(kinds[sign]) != year_places(calendar, rule, year):
                raise BadPaper("the rule has another day")
            checked[sign] = True
        many += len(kinds[sign])
    return many
