"""Books: plans by names, kept up by edits, what comes next, and how two edited books are brought together."""

from recurwright.errors import BadSize, NoDay, NoSuch
from recurwright.plans import all_clashes, all_spans
from recurwright.spans import first_free, together


class Book:
    """Plans by names."""

    def __init__(self):
        self.plans = {}

    def put(self, name, plan):
        """Put a plan in; NoSuch for a name that is there."""
        if name in self.plans:
            raise NoSuch("a plan of this name is there")
        self.plans[name] = plan

    def take(self, name):
        """Take a plan out; return it; NoSuch."""
        plan = self.here(name)
        self.plans.pop(name)
        return plan

    def here(self, name):
        """Return a plan; NoSuch."""
        if name not in self.plans:
            raise NoSuch("no plan of this name is there")
        return self.plans[name]

    def names(self):
        """Return the names, in order."""
        return tuple(sorted(self.plans))

    def in_order(self):
        """Return the plans, by their names."""
        return [self.plans[name] for name in self.names()]

    def on_day(self, number):
        """Return (span, name) of what comes on a day, by spans, then names; BadZone."""
        return self.between(number, number + 1)

    def between(self, low, high):
        """Return (span, name) of what comes on days from one on, ahead of another, by spans, then names; BadZone."""
        names = self.names()
        return tuple([(span, names[number]) for span, number, day in all_spans(self.in_order(), low, high)])

    def next(self, number):
        """Return (day, names) of the first day from one on on which something comes; NoDay for none ever."""
        found = {}
        for name in self.names():
            day = self.next_of(self.plans[name], number)
            if day is not None:
                found[name] = day
        if found == {}:
            raise NoDay("nothing comes any more")
        first = min(found.values())
        return first, tuple([name for name in found if found[name] == first])

    def next_of(self, plan, number):
        """Return the first day from one on on which a plan comes, None for none ever."""
        try:
            return plan.next_day(number)
        except NoDay:
            return None

    def clashes(self, low, high):
        """Return ((name, day), (name, day)) of what comes at once on days from one on, ahead of another."""
        names = self.names()
        found = all_clashes(self.in_order(), low, high)
        return tuple([((names[one], day), (names[other], later)) for (one, day), (other, later) in found])

    def busy(self, low, high):
        """Return the spans of all that comes on days from one on, ahead of another, put together."""
        return together([span for span, name in self.between(low, high)])

    def room(self, low, high, start, length, step):
        """Return the first time from a start on, by steps, free so long of what comes on days; BadTime."""
        return first_free(self.busy(low, high), start, length, step)


def common_room(books, low, high, start, length, step):
    """Return the first time that all books have free; BadTime, BadSize for no books."""
    if len(books) == 0:
        raise BadSize("no books")
    spans = [span for book in books for span in book.busy(low, high)]
    return first_free(spans, start, length, step)


def merged(base, one, other):
    """Return (names to their settled rows, names that quarrel): rows, by names, of a base and two edited ones."""
    settled = {}
    quarrels = []
    for name in sorted(set(list(base) + list(one) + list(other))):
        row = base.get(name)
        ours = one.get(name)
        theirs = other.get(name)
        if ours != theirs and row not in (ours, theirs):
            quarrels.append(name)
        else:
            kept = theirs if ours == row else ours
            # A row that was taken out settles too, but there is none to tell.
            if kept is not None:
                settled[name] = kept
    return settled, tuple(quarrels)
