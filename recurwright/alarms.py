"""Alarms: what is to be told ahead of plans, put off, and told in order."""

from recurwright.clocks import DAY
from recurwright.errors import BadTime, NoSuch


def beginnings(plan, first, last):
    """Return the times from one on, ahead of another, at which a plan begins."""
    # Local time is less than a day away: what begins in a day by the one time is of it, or of the one on either side.
    days = plan.days_between(first // DAY - 1, last // DAY + 2)
    times = [plan.span(day)[0] for day in days]
    return [time for time in times if first <= time < last]


class Alarms:
    """Plans by names with how long ahead each is told, what was told up to a time, and what is put off."""

    def __init__(self):
        self.rows = {}
        self.told_to = None
        self.later = []

    def put(self, name, plan, ahead):
        """Tell of a plan so long ahead; NoSuch for a name that is there, BadTime below nought."""
        if name in self.rows:
            raise NoSuch("a plan of this name is there")
        if ahead < 0:
            raise BadTime("ahead by less than nought")
        self.rows[name] = (plan, ahead)

    def take(self, name):
        """Tell of a plan no more, nor of what is put off of it; NoSuch."""
        if name not in self.rows:
            raise NoSuch("no plan of this name is there")
        self.rows.pop(name)
        self.later = [row for row in self.later if row[1] != name]

    def due(self, first, last):
        """Return (when, name, begins) of what is to be told from a time on, ahead of another, in order."""
        found = []
        for name, (plan, ahead) in self.rows.items():
            times = beginnings(plan, first + ahead, last + ahead)
            found.extend([(begins - ahead, name, begins) for begins in times])
        return tuple(sorted(found))

    def tell(self, time):
        """Return (when, name, begins) due since the last telling (none at first) ahead of a time; put off too."""
        since = time if self.told_to is None else self.told_to
        if time < since:
            raise BadTime("all was told up to a later time")
        again = [row for row in self.later if row[0] < time]
        found = sorted(list(self.due(since, time)) + again)
        self.later = [row for row in self.later if row[0] >= time]
        self.told_to = time
        return tuple(found)

    def put_off(self, row, much):
        """Tell a row again so much later than up to when all was told; NoSuch for no plan, BadTime."""
        _, name, begins = row
        if name not in self.rows:
            raise NoSuch("no plan of this name is there")
        if much < 0 or self.told_to is None:
            raise BadTime("back in time, or nothing was told yet")
        self.later.append((self.told_to + much, name, begins))

    def waiting(self):
        """Return what is put off, in order."""
        return tuple(sorted(self.later))
