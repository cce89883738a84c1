"""Sheets: months laid out in weeks, years in months, and what is marked on them."""

from recurwright.days import Day
from recurwright.errors import BadDay, BadText


def month_rows(calendar, year, month):
    """Return a month's weeks: for each a row of days from nought on, None outside the month; BadDay."""
    size = calendar.month_days(year, month)
    start = calendar.weekday_of(calendar.number_of(year, month, 0))
    rows = []
    for first in range(-start, size, calendar.week):
        rows.append(tuple([day if 0 <= day < size else None for day in range(first, first + calendar.week)]))
    return tuple(rows)


def width_of(calendar):
    """Return in how many signs a day is told on a sheet."""
    return len(str(max(calendar.months) + 1))


def told_place(day, marked, width):
    """Return a place on a sheet: a day from nought on as from one on, a star behind a marked one; blanks for None."""
    if day is None:
        return " " * (width + 1)
    star = "*" if day in marked else " "
    return str(day + 1).rjust(width) + star


def told_month(calendar, year, month, marked=()):
    """Return a month's rows as texts: days from one on, as wide as the widest, a star behind marked ones; BadDay."""
    width = width_of(calendar)
    texts = []
    for row in month_rows(calendar, year, month):
        texts.append("".join([told_place(day, marked, width) for day in row]).rstrip(" "))
    return tuple(texts)


def places_of(row, wide, week):
    """Return a told row's places, so many signs each; BadText."""
    if row != row.rstrip(" ") or len(row) > wide * week:
        raise BadText("the row is too long")
    full = row.ljust(wide * week)
    return [full[place * wide:(place + 1) * wide] for place in range(week)]


def read_month(calendar, rows):
    """Return (days, weekday of the first, marked days) of a month's told rows; BadText for what isn't one."""
    wide = width_of(calendar) + 1
    found = []
    first = 0
    for number, row in enumerate(rows):
        for place, text in enumerate(places_of(row, wide, calendar.week)):
            if text != " " * wide:
                if text[:-1] != str(len(found) + 1).rjust(wide - 1) or text[-1] not in (" ", "*"):
                    raise BadText("another day stands there")
                if found == []:
                    first = place
                if number * calendar.week + place != first + len(found):
                    raise BadText("the day stands in another place")
                found.append(text[-1] == "*")
    if found == []:
        raise BadText("no day stands there")
    return len(found), first, tuple([day for day, star in enumerate(found) if star])


def marks(calendar, rule, year, month):
    """Return the days of a month, from nought on, that a rule has; BadDay."""
    first = calendar.number_of(year, month, 0)
    days = range(calendar.month_days(year, month))
    return tuple([day for day in days if rule.has(Day(calendar, first + day))])


def year_sheet(calendar, year, rule):
    """Return the told rows of each month of a year, a rule's days marked."""
    months = range(len(calendar.months))
    return tuple([told_month(calendar, year, month, marks(calendar, rule, year, month)) for month in months])


def same_sheet(calendar, year, other):
    """Tell whether two years have the same sheet: both long or not, and the same first weekday."""
    return sheet_of(calendar, year) == sheet_of(calendar, other)


def sheet_of(calendar, year):
    """Return (long, weekday of the first) of a year."""
    return calendar.is_long(year), calendar.weekday_of(calendar.first_of(year))


def next_same(calendar, year):
    """Return the first year behind one that has its sheet: there is always one."""
    later = year + 1
    while not same_sheet(calendar, year, later):
        later += 1
    return later


def day_by_sheet(calendar, year, month, week, weekday):
    """Return the number of the day at a week's row and weekday of a month's sheet; BadDay where none is."""
    rows = month_rows(calendar, year, month)
    if not 0 <= week < len(rows) or not 0 <= weekday < calendar.week or rows[week][weekday] is None:
        raise BadDay("no day stands there")
    return calendar.number_of(year, month, rows[week][weekday])
