"""Chains: rows that show why a meeting cannot start before some minute."""

from laterways.day import check_known, names_of
from laterways.earliest import arrival, arrival_after, earliest
from laterways.errors import BadPaper


def is_row(row, parts):
    """True for a tuple with so many parts."""
    return isinstance(row, tuple) and len(row) == parts


def read_start(day, rows):
    """What the first row shows: (meeting or None, person or None, minute)."""
    if len(rows) > 0 and is_row(rows[0], 2):
        word, name = rows[0]
        if word == "opens" and name in day:
            return (name, None, day[name].opens)
        if word == "leaves" and name in names_of(day.people):
            return (None, name, day.person_named(name).leaves)
    raise BadPaper(0, "start")


def read_leg(day, rows, place, parts, here, leaver):
    """The leg of a later row, which has so many parts.

    The row before shows its minute for the meeting here, or, if that is None,
    for the leaver's home.
    """
    row = rows[place]
    if not is_row(row, parts) or row[:2] not in day.legs:
        raise BadPaper(place, "leg")
    person, name = row[:2]
    before = day.before(person, name)
    if before != here or (before is None and person != leaver):
        raise BadPaper(place, "link")
    return (person, name)


def check_end(here):
    """Raise BadPaper if the chain ends where it began, at a home."""
    if here is None:
        raise BadPaper(0, "end")


def check_chain(day, rows):
    """The meeting of the last row, and the minute that is shown for it."""
    here, leaver, minute = read_start(day, rows)
    for place in range(1, len(rows)):
        person, name = read_leg(day, rows, place, 2, here, leaver)
        minute = arrival_after(day, person, name, minute)
        here = name
    check_end(here)
    return (here, minute)


def first_at(day, name, starts):
    """The first attendee who arrives at the very start of the meeting."""
    return [person for person in day.attendees(name) if arrival(day, person, name, starts) == starts[name]][0]


def chain(day, name):
    """A chain that shows the earliest start of the meeting; it is found from behind."""
    check_known(day, name)
    starts = earliest(day)
    rows = []
    here = name
    while starts[here] != day[here].opens:
        person = first_at(day, here, starts)
        rows.append((person, here))
        here = day.before(person, here)
        if here is None:
            return [("leaves", person)] + rows[::-1]
    return [("opens", here)] + rows[::-1]
