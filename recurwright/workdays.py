"""Workdays: days that are worked, counted on over those that aren't, and days moved to worked ones."""

from recurwright.counts import Counter
from recurwright.days import Day
from recurwright.errors import BadRule, NoDay
from recurwright.rules import All, Not

WAYS = ("behind", "ahead", "nearest", "within month")


class Works:
    """A calendar, a rule of days that are worked, and one of days off."""

    def __init__(self, calendar, worked, off):
        self.calendar = calendar
        self.rule = All((worked, Not(off)))
        self.counter = Counter(calendar, self.rule)
        if self.counter.in_period() == 0:
            raise NoDay("no day is worked")

    def is_worked(self, number):
        """Tell whether a day is worked."""
        return self.rule.has(Day(self.calendar, number))

    def add(self, number, many):
        """Return the worked day so many on from a day, back below nought; nought: the first from it on."""
        # From a day that isn't worked, the first from it on is already one on.
        if many > 0 and not self.is_worked(number):
            return self.counter.nth(number, many - 1)
        return self.counter.nth(number, many)

    def between(self, first, last):
        """Return how many days are worked from a day on, ahead of another; BadSize backwards."""
        return self.counter.between(first, last)

    def to_worked(self, number, way):
        """Return the worked day that a day is moved to: one of the four ways; BadRule for another way."""
        if way not in WAYS:
            raise BadRule("no such way")
        if self.is_worked(number):
            return number
        behind = self.counter.next(number)
        ahead = self.counter.last_ahead(number)
        if way == "behind":
            return behind
        if way == "nearest" and behind - number <= number - ahead:
            return behind
        if way == "within month" and self.same_month(number, behind):
            return behind
        return ahead

    def same_month(self, one, other):
        """Tell whether two days are in one month."""
        return Day(self.calendar, one).month_number() == Day(self.calendar, other).month_number()

    def last_of_month(self, year, month):
        """Return the last worked day of a month, None where it has none; BadDay."""
        first = self.calendar.number_of(year, month, 0)
        found = self.counter.last_ahead(first + self.calendar.month_days(year, month))
        if found < first:
            return None
        return found

    def nth_of_month(self, year, month, nth):
        """Return the nth worked day of a month, from nought on, None where it hasn't so many; BadDay."""
        first = self.calendar.number_of(year, month, 0)
        if not 0 <= nth < self.counter.between(first, first + self.calendar.month_days(year, month)):
            return None
        return self.counter.nth(first, nth)


def paid(works, rule_counter, first, last, way):
    """Return the days to which a rule's days from one on, ahead of another, are moved, in order."""
    # No way moves a day past where a later one is moved, so they stay in order.
    return tuple([works.to_worked(number, way) for number in rule_counter.days_between(first, last)])


def doubled(days):
    """Return the days that stand more than once in a row, in order."""
    counts = {}
    for day in days:
        counts[day] = counts.get(day, 0) + 1
    return tuple(sorted([day for day in counts if counts[day] > 1]))
