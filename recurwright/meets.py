"""Meets: days that suit several best, for the least cost, and turns that go round evenly."""

from recurwright.counts import Counter
from recurwright.days import Day
from recurwright.errors import BadPaper, BadSize, NoDay
from recurwright.rules import All


def cost_of(calendar, wishes, number):
    """Return what a day costs: the weights of the wishes, (rule, weight), that haven't it."""
    day = Day(calendar, number)
    return sum([weight for rule, weight in wishes if not rule.has(day)])


def best_day(calendar, wishes, first, last):
    """Return the first day from one on, ahead of another, that costs least; NoDay for none between them."""
    if last <= first:
        raise NoDay("no day lies between")
    best = first
    least = cost_of(calendar, wishes, first)
    for number in range(first + 1, last):
        cost = cost_of(calendar, wishes, number)
        if cost < least:
            best = number
            least = cost
    return best


def soonest_for_all(calendar, rules, number, many):
    """Return the numbers of the first so many days from one on that all rules have; NoDay for none ever."""
    counter = Counter(calendar, All(rules))
    return tuple([counter.nth(number, place) for place in range(many)])


def turns(people, counter, number, many):
    """Return (day, person's number) of so many turns from a day on, people going round; BadSize for none, NoDay."""
    if people < 1:
        raise BadSize("nobody to take turns")
    start = counter.ahead(number)
    return tuple([(counter.at(count), count % people) for count in range(start, start + many)])


def turn_on(people, counter, number):
    """Return whose turn a day is, None for a day that isn't the rule's; BadSize."""
    if people < 1:
        raise BadSize("nobody to take turns")
    if counter.between(number, number + 1) == 0:
        return None
    return counter.ahead(number) % people


def count_day(row, busy, ends):
    """Count a day's people: on how many days each came, and on how many days on end till now."""
    for one in range(len(busy)):
        if one in row:
            busy[one] += 1
            ends[one] += 1
        else:
            ends[one] = 0


def shifts(needs, people, most):
    """Return each day's people, a rising row, by needs: the least busy are taken first, then by numbers; NoDay."""
    if people < 0 or most < 1 or min(needs, default=0) < 0:
        raise BadSize("a count is out of bounds")
    busy = [0] * people
    ends = [0] * people
    rows = []
    for need in needs:
        good = sorted([(busy[one], one) for one in range(people) if ends[one] < most])
        if len(good) < need:
            raise NoDay("too few may come")
        row = tuple(sorted([one for _, one in good[:need]]))
        count_day(row, busy, ends)
        rows.append(row)
    return tuple(rows)


def check_shifts(needs, rows, people, most):
    """Return on how many days each comes, where needs are met, nobody more days on end than told; BadPaper."""
    twice = any([len(set(row)) != len(row) for row in rows])
    if twice or [len(row) for row in rows] != list(needs):
        raise BadPaper("another count comes than is needed")
    busy = [0] * people
    ends = [0] * people
    for row in rows:
        if any([not 0 <= one < people for one in row]):
            raise BadPaper("nobody has such a number")
        count_day(row, busy, ends)
        if any([ends[one] > most for one in row]):
            raise BadPaper("somebody comes too many days on end")
    return tuple(busy)
