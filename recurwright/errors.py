"""The errors of recurwright: all stand under CalendarFault, a ValueError."""


class CalendarFault(ValueError):
    """What recurwright refuses."""


class BadCalendar(CalendarFault):
    """A calendar that can't be."""


class BadDay(CalendarFault):
    """A year, month or day that isn't there."""


class BadTime(CalendarFault):
    """A time of day or a length that can't be."""


class BadRule(CalendarFault):
    """A rule of days that can't be."""


class BadZone(CalendarFault):
    """A zone that can't be, or a local time that it hasn't."""


class BadSize(CalendarFault):
    """A count or number that is out of bounds."""


class BadPaper(CalendarFault):
    """A paper that doesn't show what it is to show."""


class BadText(CalendarFault):
    """A text that isn't one of the language."""


class BadStore(CalendarFault):
    """Kept words that aren't whole."""


class NoDay(CalendarFault):
    """No day, or no time, is as asked."""


class NoSuch(CalendarFault):
    """What isn't there."""
