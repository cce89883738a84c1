"""Hours: when something is open by a week's spans, but for some days, and open time counted between any two times."""

from recurwright.clocks import DAY
from recurwright.errors import BadTime, NoDay
from recurwright.spans import together, total


class Hours:
    """A week's length, spans of times of day for each of its days, by days' numbers from nought on, and other days'."""

    def __init__(self, week, rows, others=None):
        self.week = week
        self.rows = [day_spans(spans) for spans in rows]
        self.others = {}
        if week < 1 or len(self.rows) != week:
            raise BadTime("no week, or not its days")
        if others is not None:
            self.others = {day: day_spans(spans) for day, spans in others}

    def of_day(self, day):
        """Return the spans of times of day on which a day, by its number, is open."""
        if day in self.others:
            return self.others[day]
        return self.rows[day % self.week]

    def is_open(self, time):
        """Tell whether it is open at a time, seconds from day nought on."""
        day, second = divmod(time, DAY)
        return any([first <= second < last for first, last in self.of_day(day)])

    def in_week(self):
        """Return how long it is open in a week without other days."""
        return sum([self.in_row(weekday) for weekday in range(self.week)])

    def in_day(self, day):
        """Return how long a day is open."""
        return total(self.of_day(day))

    def in_row(self, weekday):
        """Return how long a weekday is open when it has no others."""
        return total(self.rows[weekday])

    def ahead(self, time):
        """Return how long it is open from day nought on ahead of a time, below nought back."""
        day, second = divmod(time, DAY)
        part = sum([min(second, last) - first for first, last in self.of_day(day) if first < second])
        return self.ahead_of_day(day) + part

    def ahead_of_day(self, day):
        """Return how long it is open from day nought on ahead of a day, below nought back."""
        weeks, weekday = divmod(day, self.week)
        much = weeks * self.in_week() + sum([self.in_row(place) for place in range(weekday)])
        for other in self.others:
            more = self.in_day(other) - self.in_row(other % self.week)
            if 0 <= other < day:
                much += more
            elif day <= other < 0:
                much -= more
        return much

    def between(self, first, last):
        """Return how long it is open from a time on, ahead of another; BadTime backwards."""
        if last < first:
            raise BadTime("the second time is ahead of the first")
        return self.ahead(last) - self.ahead(first)

    def gone(self, time, shut):
        """Return how long it is open, or else shut, from day nought on ahead of a time, below nought back."""
        if shut:
            return time - self.ahead(time)
        return self.ahead(time)

    def time_by(self, time, much, shut):
        """Return the first time by which it was open, or else shut, so long from a time on; NoDay for none ever."""
        goal = self.gone(time, shut) + much
        weekly = self.week * DAY - self.in_week() if shut else self.in_week()
        last = max(list(self.others), default=0)
        low = time
        size = DAY
        while self.gone(low + size, shut) < goal:
            low = low + size
            if weekly == 0 and low // DAY > last:
                raise NoDay("it is never open, or never shut, so long")
            size = size * 2
        # The goal is reached behind low, and by so much later: halved till they are one apart.
        high = low + size
        while high - low > 1:
            half = (low + high) // 2
            if self.gone(half, shut) < goal:
                low = half
            else:
                high = half
        return high

    def next_open(self, time):
        """Return the first time from one on at which it is open; NoDay for none ever."""
        return self.time_by(time, 1, False) - 1

    def next_shut(self, time):
        """Return the first time from one on at which it isn't open; NoDay for none ever."""
        return self.time_by(time, 1, True) - 1

    def add(self, time, much):
        """Return the time by which so much open time has gone from a time on, the first such; BadTime, NoDay."""
        if much < 0:
            raise BadTime("open time below nought")
        if much == 0:
            return time
        return self.time_by(time, much, False)


def day_spans(spans):
    """Return spans of times of day put together; BadTime for one out of the day."""
    found = together(spans)
    if any([first < 0 or last > DAY for first, last in found]):
        raise BadTime("a span lies out of the day")
    return found
