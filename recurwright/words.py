"""Words: rules written in words, and read."""

from recurwright.errors import BadText, CalendarFault
from recurwright.rules import PARTS, STEPS, All, Any, Every, Is, Moved, Not, Pick

FIGURES = "0123456789"


def told(rule):
    """Return a rule's words."""
    return words_of(rule.shown())


def words_of(row):
    """Return the words of what a rule shows."""
    kind = row[0]
    if kind == "is":
        part = row[1].replace(" ", "-")
        return f"is {part} {numbers_told(row[2])}"
    if kind == "every":
        return f"every {row[2]} {row[1]} from {row[3]}"
    if kind == "not":
        return f"not ({words_of(row[1])})"
    if kind == "moved":
        return f"moved {row[1]} ({words_of(row[2])})"
    if kind == "pick":
        return f"pick {row[1]} {numbers_told(row[2])} ({words_of(row[3])})"
    within = ", ".join([words_of(each) for each in row[1]])
    return f"{kind} ({within})"


def numbers_told(numbers):
    """Return numbers with commas between."""
    return ",".join([str(number) for number in numbers])


def signs_of(text):
    """Return a text's signs: words, brackets, commas between rules, and blanks where none may stand."""
    if text == "":
        return []
    plain = text
    while "  " in plain:
        plain = plain.replace("  ", " ")
    signs = []
    for word in plain.replace(" (", "(").replace("( ", "(").split(" "):
        if word[:1] in ("", ")", ","):
            # The blank ahead may not stand here: it is a sign of its own, which no rule takes.
            signs.append(" ")
        for piece in word.replace("(", " ( ").replace(")", " ) ").split(" "):
            signs.extend(comma_apart(piece))
    return signs


def comma_apart(piece):
    """Return a piece's signs: a comma at its end, which no number follows, stands between rules."""
    word = piece[:-1] if piece.endswith(",") else piece
    return [sign for sign in (word, piece[len(word):]) if sign != ""]


class Reader:
    """Signs of a text, and which comes next."""

    def __init__(self, text):
        self.signs = signs_of(text)
        self.place = 0

    def here(self):
        """Return the next sign, bare behind the last."""
        if self.place == len(self.signs):
            return ""
        return self.signs[self.place]

    def take(self, sign=None):
        """Take the next sign, or that one; BadText."""
        found = self.here()
        if found == "" or (sign is not None and found != sign):
            raise BadText("another sign, or none, stands there")
        self.place += 1
        return found

    def take_number(self):
        """Take a whole number; BadText."""
        number = whole(self.here())
        self.take()
        return number

    def take_numbers(self):
        """Take numbers with commas between; BadText."""
        numbers = [whole(word) for word in self.here().split(",")]
        self.take()
        return numbers

    def take_rule(self):
        """Take a rule; BadText, BadRule."""
        place = self.place
        try:
            return self.rule_of(self.take())
        except CalendarFault:
            # What is refused changes nothing: the signs taken till then come next again.
            self.place = place
            raise

    def rule_of(self, kind):
        """Return the rule of a kind whose word was taken."""
        if kind == "is":
            part = self.take().replace("-", " ")
            if part not in PARTS:
                raise BadText("no such part")
            return Is(part, self.take_numbers())
        if kind == "every":
            return self.every_of(self.take_number())
        if kind == "not":
            return Not(self.inner())
        if kind == "moved":
            many = self.take_number()
            return Moved(self.inner(), many)
        if kind == "pick":
            return self.pick_of(self.take())
        if kind == "all":
            return All(self.row())
        if kind == "any":
            return Any(self.row())
        raise BadText("no rule is written so")

    def every_of(self, count):
        """Return the rule whose count was taken."""
        unit = self.take()
        if unit not in STEPS:
            raise BadText("no such unit")
        self.take("from")
        return Every(unit, count, self.take_number())

    def pick_of(self, unit):
        """Return the rule that picks, whose unit was taken."""
        if unit not in ("month", "year"):
            raise BadText("no such unit")
        places = self.take_numbers()
        return Pick(self.inner(), unit, places)

    def inner(self):
        """Take a rule in brackets; BadText."""
        place = self.place
        try:
            self.take("(")
            rule = self.take_rule()
            self.take(")")
            return rule
        except CalendarFault:
            self.place = place
            raise

    def row(self):
        """Take rules in brackets with commas between, none too; BadText."""
        place = self.place
        try:
            self.take("(")
            rules = self.rules_here()
            self.take(")")
            return rules
        except CalendarFault:
            self.place = place
            raise

    def rules_here(self):
        """Return the rules ahead of a closing bracket, taken."""
        if self.here() == ")":
            return []
        rules = [self.take_rule()]
        while self.here() == ",":
            self.take(",")
            rules.append(self.take_rule())
        return rules


def whole(word):
    """Return the whole number of one to seven figures, a stroke ahead of one below nought; BadText."""
    figures = word.removeprefix("-")
    if not 0 < len(figures) < 8 or figures.strip(FIGURES) != "" or str(int(figures)) != figures or word == "-0":
        raise BadText("no whole number is written so")
    return int(word)


def read(text):
    """Return the rule of a text; BadText, BadRule."""
    reader = Reader(text)
    rule = reader.take_rule()
    if reader.here() != "":
        raise BadText("more stands behind the rule")
    return rule
