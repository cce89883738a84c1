"""Histories: books' edits one behind another, undone and done again, and what two moments differ in."""

from recurwright.errors import NoSuch


def set_row(rows, name, row):
    """Let a name have a row in a table, None for none."""
    if row is None:
        rows.pop(name, None)
    else:
        rows[name] = row


class History:
    """Rows by names, the edits done, and those undone."""

    def __init__(self, rows=None):
        self.rows = {}
        if rows is not None:
            self.rows = {name: rows[name] for name in rows}
        self.done = []
        self.undone = []

    def put(self, name, row):
        """Put a row in, or another one in its place; what was undone is forgotten."""
        self.do((name, self.rows.get(name), row))

    def take(self, name):
        """Take a row out; NoSuch; what was undone is forgotten."""
        if name not in self.rows:
            raise NoSuch("no row of this name is there")
        self.do((name, self.rows[name], None))

    def do(self, edit):
        """Do an edit, (name, row ahead, row behind), None for none."""
        name, ahead, behind = edit
        self.let(name, behind)
        self.done.append((name, ahead, behind))
        self.undone = []

    def let(self, name, row):
        """Let a name have a row, None for none."""
        set_row(self.rows, name, row)

    def undo(self):
        """Undo the last edit; NoSuch for none."""
        if self.done == []:
            raise NoSuch("no edit is done")
        name, ahead, behind = self.done.pop()
        self.let(name, ahead)
        self.undone.append((name, ahead, behind))

    def redo(self):
        """Do the last undone edit again; NoSuch for none."""
        if self.undone == []:
            raise NoSuch("no edit is undone")
        name, ahead, behind = self.undone.pop()
        self.let(name, behind)
        self.done.append((name, ahead, behind))

    def at(self, count):
        """Return the rows behind the first so many edits; NoSuch for more than are done."""
        if not 0 <= count <= len(self.done):
            raise NoSuch("not so many edits are done")
        found = {name: self.rows[name] for name in self.rows}
        for name, ahead, _ in reversed(self.done[count:]):
            set_row(found, name, ahead)
        return found

    def between(self, first, last):
        """Return (name, row at one count of edits, at another), names in order, where they are unlike; NoSuch."""
        return unlike(self.at(first), self.at(last))

    def names_ever(self):
        """Return all names that the edits done name, those undone left out, in order."""
        return tuple(sorted({name for name, ahead, behind in self.done}))


def unlike(one, other):
    """Return (name, row, row), names in order, where two tables of rows are unlike, None for none."""
    names = sorted(set(list(one) + list(other)))
    return tuple([(name, one.get(name), other.get(name)) for name in names if one.get(name) != other.get(name)])


def patched(rows, changes):
    """Return rows with changes, (name, row ahead, row behind), made; NoSuch where another row is there."""
    found = {name: rows[name] for name in rows}
    for name, ahead, behind in changes:
        if found.get(name) != ahead:
            raise NoSuch("another row is there")
        set_row(found, name, behind)
    return found
