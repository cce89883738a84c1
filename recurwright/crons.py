"""Crons: minutes, hours, days, months and weekdays in five words, and the times that they mean."""

from recurwright.calendars import count_below
from recurwright.clocks import DAY
from recurwright.counts import Counter
from recurwright.errors import BadText, NoDay
from recurwright.rules import All, Is

FIGURES = "0123456789"


def numbers_of(word, low, high):
    """Return the numbers of a word: a star, numbers, spans (a-b) or steps (a-b/c, */c) with commas between; BadText."""
    found = []
    for part in word.split(","):
        first, last, by = span_of(part, low, high)
        if by < 1 or not low <= first <= last <= high:
            raise BadText("no such span of numbers")
        found.extend(list(range(first, last + 1, by)))
    return tuple(sorted(set(found)))


def span_of(part, low, high):
    """Return (first, last, step) of what stands between a word's commas; BadText."""
    span, slash, step = part.partition("/")
    by = 1 if slash == "" else number_of(step)
    if span == "*":
        return low, high, by
    begin, stroke, end = span.partition("-")
    first = number_of(begin)
    if stroke != "":
        return first, number_of(end), by
    if slash != "":
        return first, high, by
    return first, first, by


def number_of(word):
    """Return the number of one or two figures; BadText."""
    if not 0 < len(word) < 3 or word.strip(FIGURES) != "":
        raise BadText("no number of one or two figures")
    return int(word)


class Cron:
    """Minutes, hours and days of five words: minute, hour, day and month from one on, weekday; days keep all three."""

    def __init__(self, calendar, text):
        words = text.split()
        if len(words) != 5:
            raise BadText("not five words")
        self.minutes = numbers_of(words[0], 0, 59)
        self.hours = numbers_of(words[1], 0, 23)
        # The long month may be the longest: it has a day more than its length.
        days = numbers_of(words[2], 1, max(calendar.months) + 1)
        months = numbers_of(words[3], 1, len(calendar.months))
        weekdays = numbers_of(words[4], 0, calendar.week - 1)
        in_month = Is("day", [day - 1 for day in days])
        in_year = Is("month", [month - 1 for month in months])
        self.rule = All((in_month, in_year, Is("weekday", weekdays)))
        self.counter = Counter(calendar, self.rule)
        self.seconds = tuple([hour * 3600 + minute * 60 for hour in self.hours for minute in self.minutes])

    def of_day(self):
        """Return the seconds of its times on each of its days, in order."""
        return self.seconds

    def has_day(self, number):
        """Tell whether a day is one of its."""
        return self.counter.between(number, number + 1) == 1

    def has(self, time):
        """Tell whether a time, seconds from day nought on, is one of its."""
        day, second = divmod(time, DAY)
        return second in self.seconds and self.has_day(day)

    def ahead(self, time):
        """Return how many of its times come from day nought on ahead of a time, below nought back."""
        day, second = divmod(time, DAY)
        many = self.counter.ahead(day) * len(self.seconds)
        if self.has_day(day):
            many += count_below(self.seconds, second)
        return many

    def at(self, count):
        """Return the time that has so many ahead of it; NoDay for none ever."""
        days, place = divmod(count, len(self.seconds))
        return self.counter.at(days) * DAY + self.seconds[place]

    def next(self, time):
        """Return the first of its times from one on; NoDay for none ever."""
        return self.at(self.ahead(time))

    def last_ahead(self, time):
        """Return the last of its times ahead of one; NoDay for none ever."""
        return self.at(self.ahead(time) - 1)

    def between(self, first, last):
        """Return how many of its times there are from one on, ahead of another, nought backwards."""
        return max(0, self.ahead(last) - self.ahead(first))


def next_of(cron, time):
    """Return the first of a cron's times from one on, None for none ever."""
    try:
        return cron.next(time)
    except NoDay:
        return None


def first_of_all(crons, time):
    """Return (time, numbers) of the first time from one on of any cron, and whose it is; NoDay for none ever."""
    found = {}
    for number, cron in enumerate(crons):
        when = next_of(cron, time)
        if when is not None:
            found[number] = when
    if found == {}:
        raise NoDay("no cron has a time")
    first = min(found.values())
    return first, tuple([number for number in found if found[number] == first])


def told_numbers(numbers, low, high):
    """Return a word of numbers, rising: a star for all, spans for three or more on end."""
    rising = sorted(set(numbers))
    if rising == list(range(low, high + 1)):
        return "*"
    words = []
    for first, last in runs_of(rising):
        if last - first >= 2:
            words.append(f"{first}-{last}")
        else:
            words.extend([str(number) for number in range(first, last + 1)])
    return ",".join(words)


def runs_of(numbers):
    """Return the (first, last) of what stands on end in rising numbers, in order."""
    runs = []
    for number in numbers:
        if runs != [] and runs[-1][1] == number - 1:
            runs[-1] = (runs[-1][0], number)
        else:
            runs.append((number, number))
    return runs
