"""Earliest starts, and starts that are kept or not."""

from laterways.errors import BadName
from laterways.words import check_number, greater


def start_before(day, person, name, starts):
    """The start of the meeting before in the row, or the minute of leaving home."""
    before = day.before(person, name)
    return day.person_named(person).leaves if before is None else starts[before]


def arrival_after(day, person, name, minute, extra=0):
    """The arrival at the meeting if the one before starts at the minute.

    For the first meeting of the row it is the minute of leaving home. The
    meeting before may take extra minutes.
    """
    before = day.before(person, name)
    length = 0 if before is None else day[before].length
    way = day.leg_map(person, name)
    return way(minute + length + extra)


def arrival(day, person, name, starts):
    """The minute at which the person arrives at the meeting, by the starts."""
    return arrival_after(day, person, name, start_before(day, person, name, starts))


def in_day_order(day, table):
    """The table of all meetings in the order of the day."""
    return {meeting.name: table[meeting.name] for meeting in day.meetings}


def earliest(day):
    """The earliest start of each meeting, in the order of the day."""
    starts = {}
    for name in day.order():
        start = day[name].opens
        for person in day.attendees(name):
            start = greater(start, arrival(day, person, name, starts))
        starts[name] = start
    return in_day_order(day, starts)


def late(day):
    """The names of all meetings whose earliest start is after their latest."""
    starts = earliest(day)
    return [meeting.name for meeting in day.meetings if starts[meeting.name] > meeting.latest]


def can_be_kept(day):
    """True if no meeting is late."""
    return len(late(day)) == 0


def check_starts(day, starts):
    """Raise an error unless each meeting, and nothing else, has a start."""
    for meeting in day.meetings:
        if meeting.name not in starts:
            raise BadName(meeting.name)
    for name in starts:
        if name not in day:
            raise BadName(name)
    for meeting in day.meetings:
        check_number("start", starts[meeting.name], 0, None)


def first_behind(day, name, starts):
    """The first attendee who arrives after the start, or None."""
    for person in day.attendees(name):
        if arrival(day, person, name, starts) > starts[name]:
            return person
    return None


def fault(day, starts):
    """None if the starts are kept, else the first (name, reason, person)."""
    check_starts(day, starts)
    for meeting in day.meetings:
        name = meeting.name
        if starts[name] < meeting.opens:
            return (name, "early", None)
        if starts[name] > meeting.latest:
            return (name, "late", None)
        person = first_behind(day, name, starts)
        if person is not None:
            return (name, "arrives", person)
    return None
