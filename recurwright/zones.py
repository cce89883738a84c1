"""Zones: how far local times are ahead of the one time, changes of it, and local times that come twice or never."""

from recurwright.calendars import count_below
from recurwright.clocks import DAY
from recurwright.errors import BadZone


class Zone:
    """How far local time is ahead at first, and changes, (one time, how far from there on), rising."""

    def __init__(self, first, changes=()):
        self.first = first
        self.changes = tuple([tuple(row) for row in changes])
        self.whens = [when for when, ahead in self.changes]
        self.aheads = [first] + [ahead for when, ahead in self.changes]
        if any([abs(ahead) >= DAY for ahead in self.aheads]):
            raise BadZone("local time is a day or more away")
        if any([self.whens[place] <= self.whens[place - 1] for place in range(1, len(self.whens))]):
            raise BadZone("the changes don't rise")

    def ahead(self, when):
        """Return how far local time is ahead at a time."""
        return self.aheads[count_below(self.whens, when + 1)]

    def local(self, when):
        """Return the local time of a time."""
        return when + self.ahead(when)

    def times_of(self, local):
        """Return all times whose local time one is, in order: none in a gap, several where clocks go back."""
        times = sorted({local - ahead for ahead in self.aheads})
        return tuple([when for when in times if self.local(when) == local])

    def turned(self):
        """Return (one time, how far ahead till then, how far from there on) of each change, in order."""
        return [(self.whens[place], self.aheads[place], self.aheads[place + 1]) for place in range(len(self.whens))]

    def time_of(self, local, later=False):
        """Return a local time's time, the earlier or later of several; in a gap by the clock till then; BadZone."""
        times = self.times_of(local)
        if times != ():
            return times[-1] if later else times[0]
        for when, old, new in self.turned():
            if when + old <= local < when + new:
                return local - old
        raise BadZone("no time has this local time")

    def gaps(self):
        """Return the (first, behind the last) local times that each change leaves out, in order."""
        return tuple([(when + old, when + new) for when, old, new in self.turned() if old < new])

    def folds(self):
        """Return the (first, behind the last) local times that each change makes come again, in order."""
        return tuple([(when + new, when + old) for when, old, new in self.turned() if new < old])

    def merged(self):
        """Return the zone without changes that change nothing."""
        return Zone(self.first, [(when, new) for when, old, new in self.turned() if old != new])

    def shown(self):
        """Return (first, changes)."""
        return self.first, self.changes


def same_from(one, other, when):
    """Return the first time from one on at which two zones are unlike, None for none."""
    # Between changes of either zone, what they are stays as it is.
    later = sorted([turn for turn in one.whens + other.whens if turn > when])
    for time in [when] + later:
        if one.ahead(time) != other.ahead(time):
            return time
    return None


def day_length(zone, number):
    """Return the seconds between the times of a local day's midnight and the next one's; BadZone."""
    return zone.time_of((number + 1) * DAY) - zone.time_of(number * DAY)
