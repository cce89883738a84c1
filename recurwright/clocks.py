"""Clocks: times of day in seconds, lengths, and both written."""

from recurwright.errors import BadText, BadTime

DAY = 86400
FIGURES = "0123456789"
LETTERS = "dhms"
SIZES = (86400, 3600, 60, 1)


def check_time(seconds):
    """Return a time of day, seconds from nought to a day's less one; BadTime."""
    if not 0 <= seconds < DAY:
        raise BadTime("no time of day")
    return seconds


def time_of(hours, minutes, seconds=0):
    """Return a time of day; BadTime."""
    if not 0 <= hours < 24 or not 0 <= minutes < 60 or not 0 <= seconds < 60:
        raise BadTime("no such hours, minutes or seconds")
    return hours * 3600 + minutes * 60 + seconds


def parts_of(seconds):
    """Return the (hours, minutes, seconds) of a time of day; BadTime."""
    time = check_time(seconds)
    return time // 3600, time // 60 % 60, time % 60


def two(number):
    """Return a number in two figures at least."""
    return f"{number:02d}"


def told_time(seconds):
    """Return a time of day as hours, minutes and seconds with points between; BadTime."""
    return ".".join([two(part) for part in parts_of(seconds)])


def read_time(text):
    """Return the time of day of a text of two or three pairs of figures with points between; BadText, BadTime."""
    words = text.split(".")
    if len(words) not in (2, 3) or any([len(word) != 2 or word.strip(FIGURES) != "" for word in words]):
        raise BadText("no time of day is written so")
    numbers = [int(word) for word in words] + [0]
    return time_of(numbers[0], numbers[1], numbers[2])


def told_length(seconds):
    """Return a length as days, hours, minutes and seconds, letters behind, those of nought left out; BadTime."""
    if seconds < 0:
        raise BadTime("a length below nought")
    if seconds == 0:
        return "0s"
    words = []
    rest = seconds
    for letter, size in zip(LETTERS, SIZES):
        if rest >= size:
            words.append(f"{rest // size}{letter}")
            rest = rest % size
    return "".join(words)


def read_length(text):
    """Return the seconds of a length told so: each letter once at most, in order, no nought ahead; BadText."""
    if text == "":
        raise BadText("a bare length")
    seconds = 0
    last = -1
    left = text
    while left != "":
        rest = left.lstrip(FIGURES)
        figures = left[:len(left) - len(rest)]
        place = LETTERS.find(rest[:1])
        if rest == "" or place <= last or not 0 < len(figures) < 7 or figures != str(int(figures)):
            raise BadText("no length is written so")
        seconds += int(figures) * SIZES[place]
        last = place
        left = rest[1:]
    return seconds


def rounded(seconds, step):
    """Return a time put on the nearest step, the later of two as near; BadTime for no step."""
    if step < 1:
        raise BadTime("no step")
    return (2 * seconds + step) // (2 * step) * step
