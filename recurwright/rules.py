"""Rules: days by what they are, alone or put together, and days picked of months and years."""

from recurwright.days import Day
from recurwright.errors import BadRule

PARTS = ("weekday", "month", "day", "back", "year day", "year back", "nth", "nth back")
STEPS = ("days", "weeks", "months", "years")


class Is:
    """Days of which a part is one of some numbers."""

    def __init__(self, part, numbers):
        self.part = part
        self.numbers = tuple(sorted(set(numbers)))
        if part not in PARTS or self.numbers == () or self.numbers[0] < 0:
            raise BadRule("no such part, or no such numbers")

    def has(self, day):
        """Tell whether a day is one of the rule's."""
        return part_of(day, self.part) in self.numbers

    def steps(self):
        """Return the (unit, count) of what it counts by."""
        return ()

    def reach(self, calendar):
        """Return how many days away, out of its year, its days may hang on."""
        return self.reach_from(calendar, 0)

    def reach_from(self, calendar, out):
        """Return how many days out of a year a day hangs on that is itself so many days out of it."""
        return out

    def shown(self):
        """Return (kind, part, numbers)."""
        return "is", self.part, self.numbers


def part_of(day, part):
    """Return a day's part; BadRule for another."""
    if part not in PARTS:
        raise BadRule("no such part")
    if part == "weekday":
        return day.weekday
    if part == "month":
        return day.month
    if part == "day":
        return day.day
    if part == "back":
        return day.left_in_month()
    if part == "year day":
        return day.year_day
    if part == "year back":
        return day.left_in_year()
    if part == "nth":
        return day.nth()
    return day.nth_back()


class Every:
    """Days, or the days of weeks, months or years, each so-manieth counted from one that is counted."""

    def __init__(self, unit, count, start):
        self.unit = unit
        self.count = count
        self.start = start
        if unit not in STEPS or count < 1:
            raise BadRule("no such unit, or no such count")

    def has(self, day):
        """Tell whether a day is one of the rule's."""
        return unit_of(day, self.unit) % self.count == self.start % self.count

    def steps(self):
        """Return the (unit, count) of what it counts by."""
        return ((self.unit, self.count),)

    def reach(self, calendar):
        """Return how many days away, out of its year, its days may hang on."""
        return self.reach_from(calendar, 0)

    def reach_from(self, calendar, out):
        """Return how many days out of a year a day hangs on that is itself so many days out of it."""
        return out

    def shown(self):
        """Return (kind, unit, count, start)."""
        return "every", self.unit, self.count, self.start


def unit_of(day, unit):
    """Return a day's, its week's, month's or year's number; BadRule for another unit."""
    if unit == "days":
        return day.number
    if unit == "weeks":
        return day.week_number()
    if unit == "months":
        return day.month_number()
    if unit != "years":
        raise BadRule("no such unit")
    return day.year


class All:
    """Days that all of some rules have."""

    def __init__(self, rules):
        self.rules = tuple(rules)

    def has(self, day):
        """Tell whether a day is one of all rules'."""
        for rule in self.rules:
            if not rule.has(day):
                return False
        return True

    def steps(self):
        """Return the (unit, count) of what they count by."""
        return steps_of(self.rules)

    def reach(self, calendar):
        """Return how many days away, out of its year, its days may hang on."""
        return self.reach_from(calendar, 0)

    def reach_from(self, calendar, out):
        """Return how many days out of a year a day hangs on that is itself so many days out of it."""
        return max([rule.reach_from(calendar, out) for rule in self.rules], default=out)

    def shown(self):
        """Return (kind, the rules shown)."""
        return "all", tuple([rule.shown() for rule in self.rules])


class Any:
    """Days that one of some rules has, or more."""

    def __init__(self, rules):
        self.rules = tuple(rules)

    def has(self, day):
        """Tell whether a day is one of some rule's."""
        for rule in self.rules:
            if rule.has(day):
                return True
        return False

    def steps(self):
        """Return the (unit, count) of what they count by."""
        return steps_of(self.rules)

    def reach(self, calendar):
        """Return how many days away, out of its year, its days may hang on."""
        return self.reach_from(calendar, 0)

    def reach_from(self, calendar, out):
        """Return how many days out of a year a day hangs on that is itself so many days out of it."""
        return max([rule.reach_from(calendar, out) for rule in self.rules], default=out)

    def shown(self):
        """Return (kind, the rules shown)."""
        return "any", tuple([rule.shown() for rule in self.rules])


def steps_of(rules):
    """Return the (unit, count) of what some rules count by, one rule's behind another's."""
    return tuple([step for rule in rules for step in rule.steps()])


class Not:
    """Days that a rule hasn't."""

    def __init__(self, rule):
        self.rule = rule

    def has(self, day):
        """Tell whether a day isn't one of the rule's."""
        return not self.rule.has(day)

    def steps(self):
        """Return the (unit, count) of what it counts by."""
        return self.rule.steps()

    def reach(self, calendar):
        """Return how many days away, out of its year, its days may hang on."""
        return self.reach_from(calendar, 0)

    def reach_from(self, calendar, out):
        """Return how many days out of a year a day hangs on that is itself so many days out of it."""
        return self.rule.reach_from(calendar, out)

    def shown(self):
        """Return (kind, the rule shown)."""
        return "not", self.rule.shown()


class Pick:
    """Of a rule's days in each month or year, those at places from nought on, below nought from the end."""

    def __init__(self, rule, unit, places):
        self.rule = rule
        self.unit = unit
        self.places = tuple(places)
        if unit not in ("month", "year") or self.places == ():
            raise BadRule("no such unit, or no places")
        self.kept = {}

    def has(self, day):
        """Tell whether a day is one of those picked."""
        numbers = self.numbered(day)
        place = numbers.get(day.number)
        return place is not None and (place in self.places or place - len(numbers) in self.places)

    def numbered(self, day):
        """Return a table of the numbers of the rule's days in a day's month or year to their places."""
        key = (day.calendar, unit_span(day, self.unit))
        if key not in self.kept:
            # Days are mostly asked one behind another: the last month or year is kept, so that it is gone through once.
            numbers = unit_days(self.rule, day, self.unit)
            self.kept = {key: {number: place for place, number in enumerate(numbers)}}
        return self.kept[key]

    def steps(self):
        """Return the (unit, count) of what it counts by."""
        return self.rule.steps()

    def reach(self, calendar):
        """Return how many days away, out of its year, its days may hang on."""
        return self.reach_from(calendar, 0)

    def reach_from(self, calendar, out):
        """Return how many days out of a year a day hangs on that is itself so many days out of it."""
        if out == 0:
            return self.rule.reach_from(calendar, 0)
        # Out of the year, the other days of its month or year may lie further out: a long one's number less itself.
        if self.unit == "month":
            return self.rule.reach_from(calendar, out + max(calendar.months))
        return self.rule.reach_from(calendar, out + sum(calendar.months))

    def shown(self):
        """Return (kind, unit, places, the rule shown)."""
        return "pick", self.unit, self.places, self.rule.shown()


class Moved:
    """Days so many days on from a rule's, back below nought."""

    def __init__(self, rule, many):
        self.rule = rule
        self.many = many

    def has(self, day):
        """Tell whether a day is one of the rule's moved ones."""
        return self.rule.has(day_at(day, day.number - self.many))

    def steps(self):
        """Return the (unit, count) of what it counts by."""
        return self.rule.steps()

    def reach(self, calendar):
        """Return how many days away, out of its year, its days may hang on."""
        return self.reach_from(calendar, 0)

    def reach_from(self, calendar, out):
        """Return how many days out of a year a day hangs on that is itself so many days out of it."""
        return self.rule.reach_from(calendar, out + abs(self.many))

    def shown(self):
        """Return (kind, days, the rule shown)."""
        return "moved", self.many, self.rule.shown()


def unit_span(day, unit):
    """Return the number of the first day of a day's month or year, and the one behind its last."""
    if unit == "month":
        return day.number - day.day, day.number + day.left_in_month() + 1
    return day.number - day.year_day, day.number + day.left_in_year() + 1


def unit_days(rule, day, unit):
    """Return the numbers of a rule's days in a day's month or year, in order."""
    first, last = unit_span(day, unit)
    return [number for number in range(first, last) if rule.has(day_at(day, number))]


def counted(rule, day, unit):
    """Return how many of a rule's days in a day's month or year come ahead of it, and behind it."""
    numbers = unit_days(rule, day, unit)
    ahead = [number for number in numbers if number < day.number]
    behind = [number for number in numbers if number > day.number]
    return len(ahead), len(behind)


def day_at(day, number):
    """Return another day of a day's calendar."""
    return Day(day.calendar, number)


def always():
    """Return the rule that has all days."""
    return All(())


def never():
    """Return the rule that has no day."""
    return Any(())
