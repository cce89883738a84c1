"""Spans: times from one on, ahead of another, put together, cut, and what they leave free."""

from recurwright.errors import BadTime, NoDay


def check_span(span):
    """Return a span, (first, behind the last); BadTime for a bare one."""
    first, last = span
    if last <= first:
        raise BadTime("the span has no length")
    return first, last


def together(spans):
    """Return spans put together where they meet or touch, in order."""
    found = []
    for first, last in sorted([check_span(span) for span in spans]):
        if found != [] and first <= found[-1][1]:
            found[-1] = (found[-1][0], max(found[-1][1], last))
        else:
            found.append((first, last))
    return tuple(found)


def both(one, other):
    """Return the spans that two lots both cover, in order."""
    ours = together(one)
    theirs = together(other)
    found = []
    here = 0
    there = 0
    while here < len(ours) and there < len(theirs):
        first = max(ours[here][0], theirs[there][0])
        last = min(ours[here][1], theirs[there][1])
        if first < last:
            found.append((first, last))
        # The one that ends first can't meet any more of the other lot.
        if ours[here][1] == last:
            here += 1
        else:
            there += 1
    return tuple(found)


def without(one, other):
    """Return the spans that a lot covers and another doesn't, in order."""
    ours = together(one)
    cuts = together(other)
    if ours == ():
        return ()
    left = []
    here = ours[0][0]
    for first, last in cuts:
        if here < first:
            left.append((here, first))
        here = max(here, last)
    if here < ours[-1][1]:
        left.append((here, ours[-1][1]))
    return both(ours, left)


def free(spans, first, last):
    """Return what spans leave free between two times, in order; BadTime for none between them."""
    return without([(first, last)], spans)


def total(spans):
    """Return how long spans are in all, each time once."""
    return sum([last - first for first, last in together(spans)])


def first_free(spans, first, length, step=1):
    """Return the first time from one on, a whole number of steps behind it, from which so long is free; BadTime."""
    if length < 1 or step < 1:
        raise BadTime("no length, or no step")
    here = first
    for low, high in together(spans):
        if here + length <= low:
            return here
        if here < high:
            here = first + (high - first + step - 1) // step * step
    return here


def deepest(spans):
    """Return (how many at most at once, the first time of it); NoDay for no spans."""
    if len(spans) == 0:
        raise NoDay("no spans")
    checked = [check_span(span) for span in spans]
    lasts = sorted([last for first, last in checked])
    ended = 0
    most = 0
    when = 0
    for begun, (first, last) in enumerate(sorted(checked), 1):
        # What ends where another begins isn't at once with it.
        while lasts[ended] <= first:
            ended += 1
        if begun - ended > most:
            most = begun - ended
            when = first
    return most, when


def covers(spans, span):
    """Tell whether spans cover one wholly; BadTime."""
    low, high = check_span(span)
    return any([first <= low and high <= last for first, last in together(spans)])


def clashing(spans):
    """Return the (lower, upper) numbers of spans that meet, in order."""
    rows = sorted([(check_span(span), number) for number, span in enumerate(spans)])
    found = []
    going = []
    for (first, last), number in rows:
        going = [(end, other) for end, other in going if first < end]
        found.extend([(min(number, other), max(number, other)) for end, other in going])
        going.append((last, number))
    return tuple(sorted(found))
