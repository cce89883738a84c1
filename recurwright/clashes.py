"""Clashes: days that several rules have at once, for ever, and the longest times without any."""

from recurwright.counts import Counter
from recurwright.errors import NoDay
from recurwright.rules import All, Any, Not


def both_rules(calendar, one, other):
    """Return the counter of the days that two rules both have."""
    return Counter(calendar, All((one, other)))


def but_rules(calendar, one, other):
    """Return the counter of the days that one rule has and another hasn't."""
    return Counter(calendar, All((one, Not(other))))


def unlike_rules(calendar, one, other):
    """Return the counter of the days that just one of two rules has."""
    return Counter(calendar, Any((All((one, Not(other))), All((Not(one), other)))))


def never_meet(calendar, one, other):
    """Tell whether two rules never have a day in common."""
    return both_rules(calendar, one, other).in_period() == 0


def first_meeting(calendar, one, other, number):
    """Return the number of the first day from one on that two rules both have; NoDay for none ever."""
    return both_rules(calendar, one, other).next(number)


def same_days(calendar, one, other):
    """Tell whether two rules have the same days for ever."""
    return unlike_rules(calendar, one, other).in_period() == 0


def within(calendar, one, other):
    """Tell whether all days of a rule are another's."""
    return but_rules(calendar, one, other).in_period() == 0


def first_unlike(calendar, one, other, number):
    """Return the number of the first day from one on that one rule has and the other hasn't, None for none ever."""
    counter = unlike_rules(calendar, one, other)
    if counter.in_period() == 0:
        return None
    return counter.next(number)


def covers_all(calendar, rules):
    """Tell whether each day is one of some rule's."""
    return Counter(calendar, Not(Any(rules))).in_period() == 0


def days_in_period(counter):
    """Return the numbers of a rule's days in the first period from day nought on, and its first day behind it."""
    numbers = []
    for year in range(counter.period):
        first = counter.calendar.first_of(year)
        numbers.extend([first + place for place in counter.places_in(year)])
    numbers.append(counter.at(counter.in_period()))
    return numbers


def longest_gap(counter):
    """Return (days from one of the rule's days to the next, the first such day's number from nought on); NoDay."""
    many = counter.in_period()
    if many == 0:
        raise NoDay("the rule has no day")
    numbers = days_in_period(counter)
    sizes = [numbers[place + 1] - numbers[place] for place in range(many)]
    longest = max(sizes)
    return longest, numbers[sizes.index(longest)]


def gaps(counter):
    """Return a table of days from one of the rule's days to the next, to how often in a period; NoDay."""
    many = counter.in_period()
    if many == 0:
        raise NoDay("the rule has no day")
    numbers = days_in_period(counter)
    table = {}
    for place in range(many):
        size = numbers[place + 1] - numbers[place]
        table[size] = table.get(size, 0) + 1
    return table


def pairs(calendar, rules):
    """Return the (lower, upper) numbers of rules that have a day in common ever, in order."""
    found = []
    for upper in range(len(rules)):
        for lower in range(upper):
            if not never_meet(calendar, rules[lower], rules[upper]):
                found.append((lower, upper))
    return tuple(sorted(found))
