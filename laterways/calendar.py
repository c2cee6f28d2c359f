"""A day that changes, and whose changes can be taken back."""

from laterways.day import day_of, meeting_with
from laterways.errors import BadDeed, CalendarError, NothingToUndo
from laterways.moves import fixed
from laterways.putting import with_meeting, without_meeting
from laterways.slack import longer
from laterways.whole import leaving
from laterways.words import check_number

DEEDS = ("move", "delay", "lengthen", "leave", "put", "drop")


def lengthened(day, name, n):
    """The day in which the meeting is n minutes longer."""
    told = day[name]
    check_number("minutes", n, 0, None)
    other = meeting_with(told, told.opens, told.latest, told.length + n)
    meetings = [other if known.name == name else known for known in day.meetings]
    return day_of(meetings, day.people, day.leg_maps())


def done(ways, day, word, parts):
    """The day after the deed; the word is one of DEEDS."""
    if word == "move":
        return fixed(day, *parts)
    if word == "delay":
        person, name, n = parts
        return longer(day, n, (person, name))
    if word == "lengthen":
        return lengthened(day, *parts)
    if word == "leave":
        return leaving(day, *parts)
    if word == "put":
        return with_meeting(day, ways, *parts)
    return without_meeting(day, ways, *parts)


class Calendar:
    """The present day, the days before it, and ways of its own."""

    def __init__(self, ways, day):
        self.ways = ways.copy()
        self.depth = 0
        self._past = []
        self._day = day

    @property
    def day(self):
        """The present day."""
        return self._day

    @day.setter
    def day(self, value):
        self.load(value)

    def load(self, day):
        """Start anew with the day."""
        self._past = []
        self._day = day
        self.depth = 0

    def go_on(self, day):
        """Take the day as the present one; undo gives the one before."""
        self._past.append(self._day)
        self._day = day
        self.depth = len(self._past)

    def act(self, word, *parts):
        """Do one deed."""
        self.go_on(done(self.ways, self._day, word, parts))

    def move(self, name, minute):
        """Let the meeting start exactly at the minute."""
        self.act("move", name, minute)

    def delay(self, person, name, n):
        """Make the leg n minutes longer."""
        self.act("delay", person, name, n)

    def lengthen(self, name, n):
        """Make the meeting n minutes longer."""
        self.act("lengthen", name, n)

    def leave(self, person, minute):
        """Let the person leave home at the minute."""
        self.act("leave", person, minute)

    def put(self, meeting, gaps):
        """Put the meeting into the rows of the people who are told in gaps."""
        self.act("put", meeting, gaps)

    def drop(self, name):
        """Take the meeting out."""
        self.act("drop", name)

    def undo(self):
        """Take the last change back."""
        if len(self._past) == 0:
            raise NothingToUndo()
        self._day = self._past.pop()
        self.depth = len(self._past)

    def do_all(self, *deeds):
        """Do all deeds as one change, or none of them."""
        day = self._day
        for place, deed in enumerate(deeds):
            if len(deed) == 0 or deed[0] not in DEEDS:
                raise BadDeed(place)
            try:
                day = done(self.ways, day, deed[0], deed[1:])
            except CalendarError as e:
                raise BadDeed(place) from e
        self.go_on(day)
