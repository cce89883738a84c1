"""Seasons: zones whose changes come each year on a rule's day, and what they make between years."""

from recurwright.clocks import DAY
from recurwright.counts import Counter
from recurwright.errors import BadZone, NoDay
from recurwright.zones import Zone


class Turn:
    """A rule's first day of each year, a local time of day by the clock till then, and how far ahead from there."""

    def __init__(self, rule, time, far):
        self.rule = rule
        self.time = time
        self.far = far


def turn_days(calendar, turn, first, last):
    """Return the number of the first of a turn's days in each year from one to another, both too; NoDay for none."""
    counter = Counter(calendar, turn.rule)
    days = []
    for year in range(first, last + 1):
        day = counter.next(calendar.first_of(year))
        if day >= calendar.first_of(year + 1):
            raise NoDay("the turn has no day in a year")
        days.append(day)
    return tuple(days)


def zone_of(calendar, start, turns, first, last):
    """Return the zone of turns in the years from one to another, both too; BadZone where two come at one local time."""
    rows = []
    for turn in turns:
        rows.extend([(day * DAY + turn.time, turn.far) for day in turn_days(calendar, turn, first, last)])
    rows = sorted(rows)
    if any([rows[place][0] == rows[place - 1][0] for place in range(1, len(rows))]):
        raise BadZone("two turns come at once")
    changes = []
    ahead = start
    for local, far in rows:
        changes.append((local - ahead, far))
        ahead = far
    return Zone(start, changes)


def summer_days(calendar, zone, year):
    """Return how many days of a year begin with the clocks further ahead than the least of the year."""
    days = range(calendar.first_of(year), calendar.first_of(year + 1))
    aheads = [zone.ahead(zone.time_of(day * DAY)) for day in days]
    least = min(aheads)
    return len([ahead for ahead in aheads if ahead > least])


def changes_in(calendar, zone, year):
    """Return the (time, how far from there on) of a zone's changes in a year by the one time."""
    first = calendar.first_of(year) * DAY
    last = calendar.first_of(year + 1) * DAY
    return tuple([(when, ahead) for when, ahead in zone.changes if first <= when < last])
