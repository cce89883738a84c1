"""Records: what held from a day to another, as it was known at each time, and mended later on."""

from recurwright.errors import BadTime, NoSuch


class Records:
    """Rows (name, value, first day, day behind the last or None, when told), in order of telling."""

    def __init__(self):
        self.rows = []

    def tell(self, when, name, value, first, last=None):
        """Tell that a name has a value from a day on, ahead of another or for ever, None for none; BadTime."""
        if self.rows != [] and when < self.rows[-1][4]:
            raise BadTime("told ahead of what was told")
        if last is not None and last <= first:
            raise BadTime("no day lies between")
        self.rows.append((name, value, first, last, when))

    def known(self, name, when):
        """Return the rows of a name that a time knows, in order of telling."""
        return [row for row in self.rows if row[0] == name and row[4] <= when]

    def at(self, name, day, when):
        """Return the value that a name had on a day, as known at a time: the latest told; NoSuch for none told."""
        found = value_by(self.known(name, when), day)
        if found == ():
            raise NoSuch("nothing was told of this day")
        return found[0]

    def spans(self, name, when):
        """Return ((first, behind the last or None), value) as known at a time, in order, neighbours alike as one."""
        rows = self.known(name, when)
        found = [(part, value_by(rows, part[0])) for part in parts_of(edges_of(rows))]
        return joined([(part, value[0]) for part, value in found if value != ()])

    def names(self, when):
        """Return the names told of by a time, in order."""
        return tuple(sorted({row[0] for row in self.rows if row[4] <= when}))

    def changed(self, name, first, second):
        """Return the spans, (first, behind the last or None), on which what two times know is unlike, in order."""
        one = self.spans(name, first)
        other = self.spans(name, second)
        days = [day for span, value in one + other for day in span if day is not None]
        parts = [part for part in parts_of(days) if value_in(one, part[0]) != value_in(other, part[0])]
        return tuple([span for span, value in joined([(part, None) for part in parts])])

    def first_known(self, name, day, value):
        """Return the first time at which a name was known to have a value on a day; NoSuch for never."""
        for row in self.rows:
            if row[0] == name and is_in(row[2:4], day) and self.at(name, day, row[4]) == value:
                return row[4]
        raise NoSuch("this was never known")


def is_in(span, day):
    """Tell whether a day is in a span, (first, behind the last or None)."""
    first, last = span
    return first <= day and (last is None or day < last)


def value_by(rows, day):
    """Return (value,) of the latest of some rows that tells of a day, () for none."""
    for name, value, first, last, when in reversed(rows):
        if is_in((first, last), day):
            return (value,)
    return ()


def edges_of(rows):
    """Return the days on which what rows tell begins or ends."""
    return [day for row in rows for day in row[2:4] if day is not None]


def parts_of(days):
    """Return the spans from each of some days to the next of them, in order, the last one for ever."""
    edges = sorted(set(days))
    return [(day, edges[place] if place < len(edges) else None) for place, day in enumerate(edges, 1)]


def joined(rows):
    """Return rows, (span, value) in order, those that touch and have the same value as one."""
    found = []
    for (first, last), value in rows:
        if found != [] and found[-1][0][1] == first and found[-1][1] == value:
            found[-1] = ((found[-1][0][0], last), value)
        else:
            found.append(((first, last), value))
    return tuple(found)


def value_in(spans, day):
    """Return (value,) of the span that a day is in, () for none."""
    for span, value in spans:
        if is_in(span, day):
            return (value,)
    return ()


def meets_all(records, names, when):
    """Return the spans on which all names have a value, as known at a time, in order, each as long as can be."""
    lots = [records.spans(name, when) for name in names]
    days = [day for spans in lots for span, value in spans for day in span if day is not None]
    found = []
    for part in parts_of(days):
        values = [value_in(spans, part[0]) for spans in lots]
        # None is told of a name that has no value.
        if () not in values and (None,) not in values:
            found.append((part, None))
    return tuple([span for span, value in joined(found)])
