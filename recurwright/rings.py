"""Rings: numbers that come again after a period, put together, counted, and the n-th one."""

from recurwright.calendars import count_below
from recurwright.counts import shared
from recurwright.errors import BadSize, NoDay

MOST = 5000


class Ring:
    """A period, and the places in it of the numbers that are there."""

    def __init__(self, period, places):
        if not 0 < period <= MOST:
            raise BadSize("no period, or too long a one")
        self.period = period
        self.places = tuple(sorted(set([place % period for place in places])))
        # A table, because going through a period asks each of its numbers whether it is there.
        self.there = {place: True for place in self.places}

    def has(self, number):
        """Tell whether a number is there."""
        return number % self.period in self.there

    def ahead(self, number):
        """Return how many numbers from nought on are ahead of one, below nought for one below."""
        times, place = divmod(number, self.period)
        return times * len(self.places) + count_below(self.places, place)

    def at(self, count):
        """Return the number that has so many ahead of it, from nought on; NoDay for none at all."""
        if self.places == ():
            raise NoDay("no number is there")
        times, rest = divmod(count, len(self.places))
        return times * self.period + self.places[rest]

    def next(self, number):
        """Return the first number from one on; NoDay for none at all."""
        return self.at(self.ahead(number))

    def shown(self):
        """Return (period, places)."""
        return self.period, self.places


def widened(ring, times):
    """Return the same numbers by so many periods as one; BadSize."""
    period = ring.period * times
    # Past the most the ring is refused anyway, so that no more places are gone through.
    return Ring(period, [number for number in range(min(period, MOST)) if ring.has(number)])


def least(ring):
    """Return the same numbers by their least period."""
    for period in range(1, ring.period):
        if ring.period % period == 0:
            found = Ring(period, [place for place in ring.places if place < period])
            if widened(found, ring.period // period).places == ring.places:
                return found
    return Ring(ring.period, ring.places)


def paired(one, other):
    """Return two rings by their least common period; BadSize."""
    common = shared(one.period, other.period)
    return widened(one, other.period // common), widened(other, one.period // common)


def either(one, other):
    """Return the ring of the numbers of either; BadSize."""
    ours, theirs = paired(one, other)
    return Ring(ours.period, ours.places + theirs.places)


def common_to(one, other):
    """Return the ring of the numbers of both; BadSize."""
    ours, theirs = paired(one, other)
    return Ring(ours.period, [place for place in ours.places if theirs.has(place)])


def opposite(ring):
    """Return the ring of all other numbers."""
    return Ring(ring.period, [place for place in range(ring.period) if not ring.has(place)])


def shifted(ring, many):
    """Return the ring of numbers so many on."""
    return Ring(ring.period, [place + many for place in ring.places])


def same(one, other):
    """Tell whether rings have the same numbers."""
    return least(one).shown() == least(other).shown()


def opposite_of(number, size):
    """Return what, times a number that shares nothing with a size, leaves one by it."""
    found = 1
    later = 0
    left = number
    rest = size
    while rest != 0:
        times = left // rest
        found, later = later, found - times * later
        left, rest = rest, left - times * rest
    return found


def meeting(first, period, second, other):
    """Return (place, period) of the numbers that leave two places by two periods, None for none; BadSize."""
    if period < 1 or other < 1:
        raise BadSize("a period below one")
    common = shared(period, other)
    away = second - first
    if away % common != 0:
        return None
    steps = away // common * opposite_of(period // common, other // common)
    size = period // common * other
    return (first + period * steps) % size, size


def many_between(ring, first, last):
    """Return how many numbers there are from one on, ahead of another; BadSize backwards."""
    if last < first:
        raise BadSize("the second number is ahead of the first")
    return ring.ahead(last) - ring.ahead(first)
