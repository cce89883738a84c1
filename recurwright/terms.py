"""Terms: years of business begun anywhere, their parts, and days counted between by several customs."""

from recurwright.days import Day, months_on
from recurwright.errors import BadSize


def has_month(calendar, month):
    """Tell whether a calendar's years have a month, counted from nought on."""
    return 0 <= month < len(calendar.months)


def has_parts(calendar, many):
    """Tell whether parts of so many months make a whole year."""
    return many >= 1 and len(calendar.months) % many == 0


def business_year(calendar, number, first_month):
    """Return the year of business that a day is in, called by the year in which it begins; BadSize for no month."""
    if not has_month(calendar, first_month):
        raise BadSize("no such month")
    day = Day(calendar, number)
    if day.month < first_month:
        return day.year - 1
    return day.year


def part_of_business(calendar, number, first_month, many):
    """Return (year of business, which part of so many months, from nought on); BadSize."""
    if not has_parts(calendar, many):
        raise BadSize("the year has no such parts")
    year = business_year(calendar, number, first_month)
    months = (Day(calendar, number).month - first_month) % len(calendar.months)
    return year, months // many


def start_of_part(calendar, year, first_month, part, many):
    """Return the number of the first day of a part of a year of business; BadSize."""
    if not has_month(calendar, first_month) or not has_parts(calendar, many):
        raise BadSize("no such month, or the year has no such parts")
    if not 0 <= part < len(calendar.months) // many:
        raise BadSize("the year has not so many parts")
    years, month = divmod(first_month + part * many, len(calendar.months))
    return calendar.number_of(year + years, month, 0)


def weeks_pattern(calendar, start, pattern, number):
    """Return (which part, week in it), from nought on, of a day by parts of so many weeks from a start on, round."""
    if len(pattern) == 0 or min(pattern) < 1:
        raise BadSize("no parts, or a part of no weeks")
    rounds, week = divmod((number - start) // calendar.week, sum(pattern))
    part = 0
    while week >= pattern[part]:
        week -= pattern[part]
        part += 1
    return rounds * len(pattern) + part, week


def even_months(calendar, first, last, size):
    """Return the days between two days where each month counts for so many, days past them for the last; BadSize."""
    if last < first or size < 1:
        raise BadSize("the second day is ahead of the first, or months of no days")
    return even_place(calendar, last, size) - even_place(calendar, first, size)


def even_place(calendar, number, size):
    """Return a day's number where each month counts for so many days."""
    day = Day(calendar, number)
    return day.month_number() * size + min(day.day, size - 1)


def share_of_years(calendar, first, last):
    """Return (days in each year, its days) of the days from one on, ahead of another, by years; BadSize."""
    if last < first:
        raise BadSize("the second day is ahead of the first")
    rows = []
    here = first
    while here < last:
        year = calendar.year_of(here)
        behind = min(last, calendar.first_of(year + 1))
        rows.append((behind - here, calendar.year_days(year)))
        here = behind
    return tuple(rows)


def due_days(calendar, first, months, many):
    """Return so many days, each so many months on from the first, held at months' ends, not from the one ahead."""
    start = Day(calendar, first)
    return tuple([months_on(start, months * place).number for place in range(many)])


def spread(amount, many):
    """Return a whole amount in so many parts as even as can be, the greater ones first; BadSize below one."""
    if many < 1:
        raise BadSize("no parts")
    least, more = divmod(amount, many)
    return tuple([least + 1 if place < more else least for place in range(many)])
