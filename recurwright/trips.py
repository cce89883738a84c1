"""Trips: rides that go on rules' days from place to place, and the earliest way to be there, with a paper."""

from recurwright.clocks import DAY
from recurwright.counts import Counter
from recurwright.errors import BadPaper, BadTime, NoDay


class Ride:
    """A rule's counter, a place and a time of day it leaves, another place, and how long it takes."""

    def __init__(self, calendar, rule, start, time, end, length):
        if not 0 <= time < DAY or length < 1 or start == end:
            raise BadTime("no time of day, no length, or no other place")
        self.counter = Counter(calendar, rule)
        self.start = start
        self.time = time
        self.end = end
        self.length = length

    def next(self, time):
        """Return the first time from one on at which it leaves, None for none ever."""
        if self.counter.in_period() == 0:
            return None
        day, second = divmod(time, DAY)
        if second > self.time:
            day += 1
        return self.counter.next(day) * DAY + self.time

    def last_leave(self, time):
        """Return the last time at which it leaves and has come by a time, None for none ever."""
        if self.counter.in_period() == 0:
            return None
        day, second = divmod(time - self.length, DAY)
        if second >= self.time:
            day += 1
        return self.counter.last_ahead(day) * DAY + self.time


def ready_at(table, place, start, change):
    """Return from when on one may leave a place of a table: changing takes no time at the start."""
    if place == start:
        return table[place]
    return table[place] + change


def earliest(rides, start, time, change):
    """Return a table of places to the earliest time to be there, changing taking so long but at the start."""
    table = {start: time}
    waiting = {start: True}
    while waiting != {}:
        # No ride goes back in time, so the earliest of those waiting can't be reached earlier any more.
        here = take_out(waiting, table, False)
        ready = ready_at(table, here, start, change)
        for ride in [each for each in rides if each.start == here]:
            leaves = ride.next(ready)
            if leaves is not None and table.get(ride.end, leaves + ride.length + 1) > leaves + ride.length:
                table[ride.end] = leaves + ride.length
                waiting[ride.end] = True
    return table


def take_out(waiting, table, late):
    """Take the place with the earliest time of a table, or else the latest, out of those waiting; return it."""
    times = [table[place] for place in waiting]
    wanted = max(times) if late else min(times)
    places = [place for place in waiting if table[place] == wanted]
    waiting.pop(places[0])
    return places[0]


def rides_to(rides, table, start, place, change):
    """Return (number, leaves) of the rides that bring one to a place by the time that a table tells, in order."""
    found = []
    for number, ride in enumerate(rides):
        if ride.end == place and ride.start in table:
            leaves = ride.next(ready_at(table, ride.start, start, change))
            if leaves is not None and leaves + ride.length == table[place]:
                found.append((number, leaves))
    return found


def way(rides, start, end, time, change):
    """Return (ride's number, leaves) of an earliest way, the first rides back from the end; NoDay for none ever."""
    table = earliest(rides, start, time, change)
    if end not in table:
        raise NoDay("no way goes there")
    steps = []
    here = end
    while here != start:
        number, leaves = rides_to(rides, table, start, here, change)[0]
        steps.append((number, leaves))
        here = rides[number].start
    return tuple(reversed(steps))


def check_table(rides, start, time, change, table):
    """Refuse a table, BadPaper, by which some place could be reached earlier."""
    if table.get(start) != time:
        raise BadPaper("the table begins at another time")
    for ride in rides:
        if ride.start in table:
            leaves = ride.next(ready_at(table, ride.start, start, change))
            if leaves is not None and table.get(ride.end, leaves + ride.length + 1) > leaves + ride.length:
                raise BadPaper("the table tells a time too late")


def check_way(rides, start, end, time, change, steps, table):
    """Return the time by which steps come to an end, which a table shows to be earliest; BadPaper."""
    check_table(rides, start, time, change, table)
    here = start
    came = time
    for number, leaves in steps:
        ready = ready_at({here: came}, here, start, change)
        if not 0 <= number < len(rides) or rides[number].start != here or leaves < ready:
            raise BadPaper("no such step can be taken")
        if rides[number].next(leaves) != leaves:
            raise BadPaper("the ride doesn't go then")
        here = rides[number].end
        came = leaves + rides[number].length
    if here != end or came != table.get(end):
        raise BadPaper("the steps don't come to the end by the earliest time")
    return came


def latest(rides, end, time, change):
    """Return a table of places to the latest time to leave them and be at an end by a time, changing taking so long."""
    table = {end: time}
    waiting = {end: True}
    while waiting != {}:
        # No ride goes back in time, so the latest of those waiting can't be left later any more.
        here = take_out(waiting, table, True)
        by = table[here] if here == end else table[here] - change
        for ride in [each for each in rides if each.end == here]:
            leaves = ride.last_leave(by)
            if leaves is not None and table.get(ride.start, leaves - 1) < leaves:
                table[ride.start] = leaves
                waiting[ride.start] = True
    return table
