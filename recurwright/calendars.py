"""Calendars: months of days, years with a day more by a cycle, weeks, and days' numbers."""

from recurwright.errors import BadCalendar, BadDay


def count_below(numbers, bound):
    """Return how many of rising numbers are below a bound, by halves."""
    low = 0
    high = len(numbers)
    while low < high:
        half = (low + high) // 2
        if numbers[half] < bound:
            low = half + 1
        else:
            high = half
    return low


class Calendar:
    """Month lengths, the month that has a day more in long years, the long years of a cycle, and a week's length."""

    def __init__(self, months, long_month, cycle, long_years, week, first_weekday=0):
        self.months = tuple(months)
        self.long_month = long_month
        self.cycle = cycle
        self.long_years = tuple(long_years)
        self.week = week
        self.first_weekday = first_weekday
        if self.months == () or min(self.months) < 1 or cycle < 1 or week < 1 or not 0 <= first_weekday < week:
            raise BadCalendar("months, a cycle or a week that can't be")
        if not 0 <= long_month < len(self.months) or any([not 0 <= year < cycle for year in self.long_years]):
            raise BadCalendar("no such long month or long year")
        # A table, because each day's date asks whether its year is long.
        self.longs = {year: True for year in self.long_years}
        self.plain_days = sum(self.months)
        self.starts = [0]
        for year in range(cycle):
            self.starts.append(self.starts[year] + self.year_days(year))

    def cycle_days(self):
        """Return how many days a whole cycle of years has."""
        return self.starts[self.cycle]

    def is_long(self, year):
        """Tell whether a year has a day more."""
        return year % self.cycle in self.longs

    def year_days(self, year):
        """Return how many days a year has."""
        if self.is_long(year):
            return self.plain_days + 1
        return self.plain_days

    def month_days(self, year, month):
        """Return how many days a month, from nought on, has; BadDay."""
        if not 0 <= month < len(self.months):
            raise BadDay("no such month")
        if month == self.long_month and self.is_long(year):
            return self.months[month] + 1
        return self.months[month]

    def first_of(self, year):
        """Return the number of a year's first day; the first of year nought is nought."""
        times, place = divmod(year, self.cycle)
        return times * self.cycle_days() + self.starts[place]

    def number_of(self, year, month, day):
        """Return a day's number, months and days from nought on; BadDay."""
        if not 0 <= day < self.month_days(year, month):
            raise BadDay("no such day in the month")
        ahead = sum([self.month_days(year, earlier) for earlier in range(month)])
        return self.first_of(year) + ahead + day

    def year_of(self, number):
        """Return the year of a day, by halves of the cycle."""
        times, rest = divmod(number, self.cycle_days())
        return times * self.cycle + count_below(self.starts, rest + 1) - 1

    def date(self, number):
        """Return the (year, month, day) of a number."""
        year = self.year_of(number)
        day = number - self.first_of(year)
        month = 0
        size = self.month_days(year, month)
        while day >= size:
            day -= size
            month += 1
            size = self.month_days(year, month)
        return year, month, day

    def weekday_of(self, number):
        """Return a day's place in its week, from nought on."""
        return (number + self.first_weekday) % self.week

    def shown(self):
        """Return (months, long month, cycle, long years, week, first weekday)."""
        return self.months, self.long_month, self.cycle, self.long_years, self.week, self.first_weekday


def common():
    """Return the common calendar: long years by four, but by a hundred, but by four hundred; monday is nought."""
    months = (31, 28, 31, 30, 31, 30, 31, 31, 30, 31, 30, 31)
    long_years = [year for year in range(400) if year % 4 == 0 and (year % 100 != 0 or year == 0)]
    return Calendar(months, 1, 400, long_years, 7, 5)


def kinds_of_years(calendar):
    """Return the (long, weekday of the first) that years of all cycles have, in order."""
    # After as many cycles as a week has days, all weekdays come again.
    years = range(calendar.cycle * calendar.week)
    return tuple(sorted({(calendar.is_long(year), calendar.weekday_of(calendar.first_of(year))) for year in years}))
