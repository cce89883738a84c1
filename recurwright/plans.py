"""Plans: what comes on a rule's days at a zone's local time, so long, but for some days and with others more."""

from recurwright.clocks import DAY, check_time
from recurwright.counts import Counter
from recurwright.errors import BadTime, NoDay, NoSuch
from recurwright.spans import clashing


class Plan:
    """A rule's counter, a time of day, a length, a zone, its first day, the one behind its last, and days changed."""

    def __init__(self, calendar, rule, time, length, zone, first, last=None):
        if length < 1 or (last is not None and last < first):
            raise BadTime("no length, or the last day is ahead of the first")
        self.counter = Counter(calendar, rule)
        self.rule = rule
        self.time = check_time(time)
        self.length = length
        self.zone = zone
        self.first = first
        self.last = last
        self.dropped = {}
        self.added = {}
        self.moved = {}

    def ruled(self, number):
        """Tell whether a day is one of the rule's within the plan's days."""
        if number < self.first or (self.last is not None and number >= self.last):
            return False
        return self.counter.between(number, number + 1) == 1

    def has(self, number):
        """Tell whether it comes on a day: ruled and not dropped, or added."""
        return number in self.added or (number not in self.dropped and self.ruled(number))

    def drop(self, number):
        """Leave a day out; NoSuch for one on which it doesn't come."""
        if not self.has(number):
            raise NoSuch("the plan doesn't come on the day")
        self.moved.pop(number, None)
        if number in self.added:
            self.added.pop(number)
        else:
            self.dropped[number] = True

    def add(self, number):
        """Let it come on a day more; NoSuch for one on which it comes."""
        if self.has(number):
            raise NoSuch("the plan comes on the day as it is")
        if number in self.dropped:
            self.dropped.pop(number)
        else:
            self.added[number] = True

    def move(self, number, time):
        """Let it come at another time on a day; NoSuch for one on which it doesn't come, BadTime."""
        if not self.has(number):
            raise NoSuch("the plan doesn't come on the day")
        checked = check_time(time)
        if checked == self.time:
            self.moved.pop(number, None)
        else:
            self.moved[number] = checked

    def days_between(self, low, high):
        """Return the days, from one on, ahead of another, on which it comes, in order."""
        start = max(low, self.first)
        end = high if self.last is None else min(high, self.last)
        ruled = self.counter.days_between(start, max(start, end))
        more = [number for number in self.added if low <= number < high]
        return tuple(sorted([number for number in ruled if number not in self.dropped] + more))

    def span(self, number):
        """Return the (first, behind the last) time of a day on which it comes; NoSuch, BadZone."""
        if not self.has(number):
            raise NoSuch("the plan doesn't come on the day")
        begins = self.zone.time_of(number * DAY + self.moved.get(number, self.time))
        return begins, begins + self.length

    def spans(self, low, high):
        """Return the spans of the days, from one on, ahead of another, in order of the days; BadZone."""
        return tuple([self.span(number) for number in self.days_between(low, high)])

    def next_ruled(self, number):
        """Return the rule's first day from one on that isn't dropped, within the plan's days, None for none ever."""
        if self.counter.in_period() == 0:
            return None
        found = self.counter.next(max(number, self.first))
        while found in self.dropped:
            found = self.counter.next(found + 1)
        if self.last is not None and found >= self.last:
            return None
        return found

    def next_day(self, number):
        """Return the first day from one on on which it comes; NoDay for none ever."""
        good = [day for day in self.added if day >= number]
        found = self.next_ruled(number)
        if found is not None:
            good.append(found)
        if good == []:
            raise NoDay("the plan never comes again")
        return min(good)

    def how_many(self):
        """Return on how many days it comes in all, None for no end."""
        if self.counter.in_period() == 0:
            return len(self.added)
        if self.last is None:
            return None
        return self.counter.between(self.first, self.last) - len(self.dropped) + len(self.added)

    def shown(self):
        """Return (time, length, first, last, dropped, added, moved), days in order, moved as (day, time)."""
        dropped = tuple(sorted(self.dropped))
        added = tuple(sorted(self.added))
        moved = tuple(sorted(self.moved.items()))
        return self.time, self.length, self.first, self.last, dropped, added, moved


def all_spans(plans, low, high):
    """Return (span, plan's number, day) of all plans' days, from one on, ahead of another, by spans, then numbers."""
    rows = []
    for number, plan in enumerate(plans):
        rows.extend([(plan.span(day), number, day) for day in plan.days_between(low, high)])
    return tuple(sorted(rows))


def all_clashes(plans, low, high):
    """Return ((plan, day), (plan, day)) of what comes at once, by the order of all_spans."""
    rows = all_spans(plans, low, high)
    found = clashing([span for span, number, day in rows])
    return tuple([(rows[lower][1:], rows[upper][1:]) for lower, upper in found])
