"""Rates: what time costs by rules of days and times of day, counted exactly between any two times."""

from recurwright.clocks import DAY
from recurwright.counts import Counter, shared
from recurwright.days import Day
from recurwright.errors import BadRule, BadTime
from recurwright.rules import All, Any, Not


def check_spans(spans):
    """Refuse, BadTime, spans of a day that can't be, or that don't rise."""
    if any([not 0 <= first < last <= DAY for first, last, rate in spans]):
        raise BadTime("no span of a day")
    if any([spans[k][0] < spans[k - 1][1] for k in range(1, len(spans))]):
        raise BadTime("the spans don't rise")


class Rates:
    """Lines (rule, spans (first, behind the last, rate) of a day): the first whose rule has a day is its."""

    def __init__(self, calendar, lines, other):
        self.calendar = calendar
        self.lines = tuple([(rule, tuple([tuple(span) for span in spans])) for rule, spans in lines])
        self.other = other
        for rule, spans in self.lines:
            check_spans(spans)
        if min([other] + [span[2] for rule, spans in self.lines for span in spans]) < 0:
            raise BadRule("a rate below nought")
        self.counters = []
        ahead = []
        for rule, spans in self.lines:
            # A day is one line's only: those of lines ahead are left out.
            self.counters.append(Counter(calendar, All((rule, Not(Any(ahead))))))
            ahead.append(rule)

    def line(self, number):
        """Return which line is a day's, None for none."""
        day = Day(self.calendar, number)
        for place, (rule, spans) in enumerate(self.lines):
            if rule.has(day):
                return place
        return None

    def spans_of(self, place):
        """Return a line's spans, none for None."""
        if place is None:
            return ()
        return self.lines[place][1]

    def rate(self, time):
        """Return what a second costs at a time."""
        number, second = divmod(time, DAY)
        for first, last, rate in self.spans_of(self.line(number)):
            if first <= second < last:
                return rate
        return self.other

    def line_cost(self, place, seconds):
        """Return what the first so many seconds of a line's day cost, None the other days."""
        # All at the other rate, and what each second of a span costs more, or less.
        cost = seconds * self.other
        for first, last, rate in self.spans_of(place):
            cost += max(0, min(seconds, last) - first) * (rate - self.other)
        return cost

    def day_cost(self, place):
        """Return what a whole day of a line costs, None the other days."""
        return self.line_cost(place, DAY)

    def part_cost(self, number, seconds):
        """Return what the first so many seconds of a day cost."""
        return self.line_cost(self.line(number), seconds)

    def days_cost(self, days, counts):
        """Return what so many days cost, of which each line has as many as counts tell."""
        plain = self.day_cost(None)
        more = [many * (self.day_cost(place) - plain) for place, many in enumerate(counts)]
        return days * plain + sum(more)

    def ahead(self, time):
        """Return what all time from day nought on ahead of a time costs, below nought back."""
        number, second = divmod(time, DAY)
        counts = [counter.ahead(number) for counter in self.counters]
        return self.days_cost(number, counts) + self.part_cost(number, second)

    def cost(self, first, last):
        """Return what time from one on, ahead of another, costs; BadTime backwards."""
        if last < first:
            raise BadTime("the second time is ahead of the first")
        return self.ahead(last) - self.ahead(first)

    def mean(self):
        """Return (top, low) of what a day costs in the mean of all days for ever."""
        # The last line's days hang on all rules: its period is one of all lines'.
        years = self.calendar.cycle if self.counters == [] else self.counters[-1].period
        days = self.calendar.first_of(years)
        cost = self.days_cost(days, [counter.ahead(days) for counter in self.counters])
        common = shared(cost, days)
        return cost // common, days // common

    def until(self, first, much):
        """Return the first time from one on by which so much is spent, None for what never is; BadRule below nought."""
        if much < 0:
            raise BadRule("spent below nought")
        if much == 0:
            return first
        if self.mean()[0] == 0:
            return None
        goal = self.ahead(first) + much
        high = first + DAY
        while self.ahead(high) < goal:
            high = first + (high - first) * 2
        # Not yet so much is spent by low, but by high: halved till they are one apart.
        low = first
        while high - low > 1:
            half = (low + high) // 2
            if self.ahead(half) < goal:
                low = half
            else:
                high = half
        return high


def edges_between(rates, first, last):
    """Return the times at which a rate may begin or end on the days from one time to another."""
    found = []
    for number in range(first // DAY, last // DAY + 1):
        found.append(number * DAY)
        for low, high, rate in rates.spans_of(rates.line(number)):
            found.extend([number * DAY + low, number * DAY + high])
    return found


def likely_starts(rates, first, last, length, step):
    """Return times from one on, by steps, among them the first from which so long, ending by another, costs least."""
    starts = range(first, last - length + 1, step)
    if step >= DAY:
        return list(starts)
    # Between edges of its beginning and its end, what a length costs only rises, falls or stays.
    edges = edges_between(rates, first, last)
    found = [first, starts[-1]]
    for edge in edges + [edge - length for edge in edges]:
        ahead = first + (edge - first) // step * step
        found.extend([time for time in (ahead, ahead + step) if first <= time <= starts[-1]])
    return sorted(set(found))


def cheapest(rates, first, last, length, step):
    """Return the first time from one on, by steps, from which so long, ending by another, costs least; BadTime."""
    if length < 1 or step < 1 or first + length > last:
        raise BadTime("no length, no step, or no room for it")
    starts = likely_starts(rates, first, last, length, step)
    costs = [rates.cost(time, time + length) for time in starts]
    return starts[costs.index(min(costs))]
