"""The errors of the program.

The messages do not show the wrong values: a value may be anything, also a
number that is too long to be written out.
"""


class CalendarError(ValueError):
    """The base class of all errors of the program."""


class BadName(CalendarError):
    """A value that is no name, or a name that is unknown or already taken."""

    def __init__(self, name):
        super().__init__("this name cannot stand here")
        self.name = name


class BadNumber(CalendarError):
    """A number out of its range, or a value that is no integer."""

    def __init__(self, what, value):
        super().__init__(f"this value cannot be the number for {what}")
        self.what = what
        self.value = value


class BadRows(CalendarError):
    """A row that cannot stand at its place in a rising map."""

    def __init__(self, place):
        super().__init__("a row does not fit into a rising map")
        self.place = place


class BadWay(CalendarError):
    """A way that nobody told, or that nobody can tell."""

    def __init__(self, start, end):
        super().__init__("there is no way between these places")
        self.start = start
        self.end = end


class BadRing(CalendarError):
    """Meetings each of which has to stand before the next one, in a ring."""

    def __init__(self, names):
        super().__init__("the rows of the people make a ring")
        self.names = list(names)


class BadPaper(CalendarError):
    """A row of a certificate that shows nothing."""

    def __init__(self, row, reason):
        super().__init__(f"a row of the certificate is bad: {reason}")
        self.row = row
        self.reason = reason


class BadRides(CalendarError):
    """A ride that does not agree with an earlier one."""

    def __init__(self, place):
        super().__init__("a ride does not agree with an earlier one")
        self.place = place


class BadText(CalendarError):
    """A line of a text that has another form."""

    def __init__(self, line):
        super().__init__("a line of the text has another form")
        self.line = line


class BadDeed(CalendarError):
    """A deed that could not be done."""

    def __init__(self, place):
        super().__init__("a deed could not be done")
        self.place = place


class TooMany(CalendarError):
    """More cases than the program goes through."""

    def __init__(self, limit):
        super().__init__("there are too many cases")
        self.limit = limit


class NotKept(CalendarError):
    """A day that cannot be kept, where only a kept one has an answer."""


class NothingToUndo(CalendarError):
    """There is no change left that could be taken back."""
