"""Days: what a rule may ask of a day, and how days are counted on and back."""

from recurwright.errors import BadDay, BadSize


class Day:
    """A calendar's day: its number, date, weekday, and its place in the year and in the month from both ends."""

    def __init__(self, calendar, number):
        self.calendar = calendar
        self.number = number
        self.year, self.month, self.day = calendar.date(number)
        self.weekday = calendar.weekday_of(number)
        self.year_day = number - calendar.first_of(self.year)

    def left_in_month(self):
        """Return how many days of its month come behind it."""
        return self.calendar.month_days(self.year, self.month) - 1 - self.day

    def left_in_year(self):
        """Return how many days of its year come behind it."""
        return self.calendar.year_days(self.year) - 1 - self.year_day

    def month_number(self):
        """Return its month's number counted from year nought on."""
        return self.year * len(self.calendar.months) + self.month

    def week_number(self):
        """Return its week's number counted from the week of day nought on."""
        return (self.number + self.calendar.first_weekday) // self.calendar.week

    def nth(self):
        """Return which of its weekday in the month it is, from nought on."""
        return self.day // self.calendar.week

    def nth_back(self):
        """Return which of its weekday in the month it is, from the end, nought the last."""
        return self.left_in_month() // self.calendar.week

    def shown(self):
        """Return (year, month, day)."""
        return self.year, self.month, self.day


def day_of(calendar, year, month, day):
    """Return the Day of a date; BadDay."""
    return Day(calendar, calendar.number_of(year, month, day))


def moved(day, many):
    """Return the Day so many on, back below nought."""
    return Day(day.calendar, day.number + many)


def months_on(day, many, held=True):
    """Return the day so many months on, the month's last where it is too short and held; BadDay where it isn't held."""
    year, month = divmod(day.month_number() + many, len(day.calendar.months))
    size = day.calendar.month_days(year, month)
    if day.day >= size and not held:
        raise BadDay("the month is too short")
    return day_of(day.calendar, year, month, min(day.day, size - 1))


def years_on(day, many, held=True):
    """Return the day so many years on, the month's last where it is too short and held; BadDay where it isn't held."""
    return months_on(day, many * len(day.calendar.months), held)


def nth_weekday(calendar, year, month, weekday, nth):
    """Return the nth (from nought on; below nought from the end, minus one the last) weekday of a month; BadDay."""
    if not 0 <= weekday < calendar.week:
        raise BadDay("no such weekday")
    first = calendar.number_of(year, month, 0)
    numbers = range(first, first + calendar.month_days(year, month))
    good = [number for number in numbers if calendar.weekday_of(number) == weekday]
    if not 0 - len(good) <= nth < len(good):
        raise BadDay("the month has not so many of the weekday")
    return Day(calendar, good[nth])


def between(one, other):
    """Return (months, days) from a day to a later one: the most whole months held, then days; BadSize backwards."""
    if other.number < one.number:
        raise BadSize("the second day is ahead of the first")
    months = other.month_number() - one.month_number()
    if months_on(one, months).number > other.number:
        months -= 1
    return months, other.number - months_on(one, months).number


def age(born, now):
    """Return how many whole years, held, lie between days; BadSize backwards."""
    months, _ = between(born, now)
    return months // len(born.calendar.months)


def quarter(day, many):
    """Return (the part of the year, the month's place in it), parts of so many months, from nought on; BadSize."""
    if many < 1 or len(day.calendar.months) % many != 0:
        raise BadSize("the year has no such parts")
    return day.month // many, day.month % many
