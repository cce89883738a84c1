"""Weeks: weeks of a year, each the year's that has most of its days, and their numbers."""

from recurwright.days import Day
from recurwright.errors import BadDay


def middle(calendar):
    """Return the place in a week of the day that tells its year: the one behind the half."""
    return calendar.week // 2


def week_start(calendar, number):
    """Return the number of the first day of a day's week."""
    return number - calendar.weekday_of(number)


def week_of(calendar, number):
    """Return (year, week from nought on, weekday) of a day."""
    start = week_start(calendar, number)
    year = calendar.year_of(start + middle(calendar))
    return year, (start - first_week(calendar, year)) // calendar.week, number - start


def first_week(calendar, year):
    """Return the number of the first day of a year's first week: it may lie in the year ahead."""
    first = calendar.first_of(year)
    start = week_start(calendar, first)
    if start + middle(calendar) < first:
        return start + calendar.week
    return start


def weeks_in(calendar, year):
    """Return how many weeks a year has."""
    return (first_week(calendar, year + 1) - first_week(calendar, year)) // calendar.week


def from_week(calendar, year, week, weekday):
    """Return the Day of a year's week; BadDay."""
    if not 0 <= week < weeks_in(calendar, year) or not 0 <= weekday < calendar.week:
        raise BadDay("the year has no such week, or the week no such day")
    return Day(calendar, first_week(calendar, year) + week * calendar.week + weekday)


def long_week_years(calendar, first, last):
    """Return the years, from one to another, both too, that have most weeks, in order."""
    years = range(first, last + 1)
    most = max([weeks_in(calendar, year) for year in years], default=0)
    return tuple([year for year in years if weeks_in(calendar, year) == most])


def weekdays_between(calendar, first, last, weekday):
    """Return how many of a weekday there are from a day's number on, ahead of another's, nought backwards; BadDay."""
    if not 0 <= weekday < calendar.week:
        raise BadDay("no such weekday")
    # The first of the weekday from a day on tells, by whole weeks, how many are ahead of it.
    start = first + (weekday - calendar.weekday_of(first)) % calendar.week
    if last <= start:
        return 0
    return (last - start - 1) // calendar.week + 1
