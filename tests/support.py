"""What the tests share: calendars, days told by counting on, and what a shown rule means, told a second time."""

from recurwright.calendars import Calendar, common
from recurwright.rules import All, Any, Every, Is, Moved, Not, Pick, PARTS, STEPS


def small_calendars():
    """Calendars of one, two and three months, weeks of one day and more, with and without long years."""
    return [
        Calendar((5,), 0, 3, (1,), 1),
        Calendar((3, 4), 1, 4, (0, 2), 5, 2),
        Calendar((10, 11, 12), 2, 5, (), 6, 4),
        Calendar((7, 9, 8), 0, 2, (0, 1), 7, 3),
        Calendar((2,), 0, 3, (2,), 7, 6),
    ]


def all_calendars():
    return small_calendars() + [common()]


class Table:
    """Days from one on, ahead of another, told by counting on and back day by day from the first of year nought."""

    def __init__(self, calendar, low, high):
        self.calendar = calendar
        self.rows = {}
        here = (0, 0, 0, calendar.first_weekday, 0, 0)
        for number in range(0, high):
            self.rows[number] = here
            here = self.on(here)
        here = (0, 0, 0, calendar.first_weekday, 0, 0)
        for number in range(-1, low - 1, -1):
            here = self.back(here)
            self.rows[number] = here
        self.months = {}
        self.years = {}
        for number in sorted(self.rows):
            year, month = self.rows[number][0:2]
            self.months.setdefault((year, month), []).append(number)
            self.years.setdefault(year, []).append(number)

    def size(self, year, month):
        shape = self.calendar
        more = month == shape.long_month and year % shape.cycle in shape.long_years
        return shape.months[month] + (1 if more else 0)

    def on(self, row):
        year, month, day, weekday, year_day, week = row
        weekday += 1
        if weekday == self.calendar.week:
            weekday, week = 0, week + 1
        day, year_day = day + 1, year_day + 1
        if day == self.size(year, month):
            day, month = 0, month + 1
        if month == len(self.calendar.months):
            month, year_day, year = 0, 0, year + 1
        return year, month, day, weekday, year_day, week

    def back(self, row):
        year, month, day, weekday, year_day, week = row
        weekday -= 1
        if weekday < 0:
            weekday, week = self.calendar.week - 1, week - 1
        day, year_day = day - 1, year_day - 1
        if day < 0:
            month -= 1
            if month < 0:
                year -= 1
                month = len(self.calendar.months) - 1
                year_day = sum(self.size(year, each) for each in range(month + 1)) - 1
            day = self.size(year, month) - 1
        return year, month, day, weekday, year_day, week

    def part(self, number, part):
        year, month, day, weekday, year_day, _ = self.rows[number]
        in_month = self.months[year, month]
        alike = [other for other in in_month if self.rows[other][3] == weekday]
        return {
            "weekday": weekday, "month": month, "day": day, "year day": year_day,
            "back": len([other for other in in_month if other > number]),
            "year back": len([other for other in self.years[year] if other > number]),
            "nth": alike.index(number), "nth back": len(alike) - 1 - alike.index(number),
        }[part]

    def unit(self, number, unit):
        year, month, _, _, _, week = self.rows[number]
        return {
            "days": number, "weeks": week, "years": year,
            "months": year * len(self.calendar.months) + month,
        }[unit]

    def means(self, shown, number):
        """Tell whether a shown rule means a day; days in months and years cut off by the table's ends don't count."""
        kind, *rest = shown
        if kind == "is":
            return self.part(number, rest[0]) in rest[1]
        if kind == "every":
            return (self.unit(number, rest[0]) - rest[2]) % rest[1] == 0
        if kind == "all":
            return all(self.means(each, number) for each in rest[0])
        if kind == "any":
            return any(self.means(each, number) for each in rest[0])
        if kind == "not":
            return not self.means(rest[0], number)
        if kind == "moved":
            return self.means(rest[1], number - rest[0])
        year, month = self.rows[number][0:2]
        group = self.months[year, month] if rest[0] == "month" else self.years[year]
        good = [other for other in group if self.means(rest[2], other)]
        picked = [good[place] for place in rest[1] if -len(good) <= place < len(good)]
        return number in picked


def some_rule(draw, calendar, deep):
    """A rule drawn from a source of numbers, at most so deep."""
    kind = draw.choice(["is", "is", "every"] if deep == 0 else ["is", "every", "all", "any", "not", "moved", "pick"])
    if kind == "is":
        return Is(draw.choice(PARTS), [draw.randrange(5) for _ in range(3)])
    if kind == "every":
        return Every(draw.choice(STEPS), draw.randrange(1, 4), draw.randrange(-5, 9))
    if kind in ("all", "any"):
        rules = [some_rule(draw, calendar, deep - 1) for _ in range(draw.randrange(3))]
        return All(rules) if kind == "all" else Any(rules)
    rule = some_rule(draw, calendar, deep - 1)
    if kind == "not":
        return Not(rule)
    if kind == "moved":
        return Moved(rule, draw.randrange(-9, 10))
    return Pick(rule, draw.choice(["month", "year"]), [draw.randrange(-3, 3) for _ in range(2)])
