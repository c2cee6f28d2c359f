"""Whole days as maps from the minute at which one person leaves home."""

from laterways.day import LAST_MINUTE, Person, day_of
from laterways.earliest import arrival, earliest
from laterways.moves import latest_starts
from laterways.rising import Rising
from laterways.words import check_number, greater


def leaving(day, person, minute):
    """The day in which the person leaves home at the minute."""
    told = day.person_named(person)
    check_number("leaves", minute, 0, LAST_MINUTE)
    row = told.meetings
    other = Person(told.name, told.home, minute, *row)
    people = [other if known.name == person else known for known in day.people]
    return day_of(day.meetings, people, day.leg_maps())


def coming_map(day, person, attendee, name, found):
    """The map from the minute of leaving to the attendee's arrival, None if that depends on others alone."""
    way = day.leg_map(attendee, name)
    before = day.before(attendee, name)
    if before is None:
        return way if attendee == person else None
    if before not in found:
        return None
    return (found[before] + day[before].length) >> way


def map_to(day, person, name, starts, found):
    """The map from the minute of leaving to the earliest start, None if that depends on others alone.

    found has the maps of the meetings before. Whatever depends on the minute
    is never before it, so one may as well wait for that which does not.
    """
    way = None
    bound = day[name].opens
    for attendee in day.attendees(name):
        coming = coming_map(day, person, attendee, name, found)
        if coming is None:
            bound = greater(bound, arrival(day, attendee, name, starts))
        else:
            way = coming if way is None else way | coming
    return None if way is None else way | Rising.since(bound)


def start_map(day, person, name):
    """The map from the minute at which the person leaves home to the earliest start of the meeting."""
    day.leg_map(person, name)
    starts = earliest(day)
    found = {}
    for known in day.order():
        way = map_to(day, person, known, starts, found)
        if way is not None:
            found[known] = way
    return found[name]


def end_map(day, person):
    """The map from the minute at which the person leaves home to the end of the last meeting."""
    row = day.person_named(person).meetings
    if len(row) == 0:
        return Rising.stay()
    return start_map(day, person, row[-1]) + day[row[-1]].length


def never_later(first, second, person):
    """True if the first day ends no later than the second one, whenever the person leaves."""
    return end_map(first, person) <= end_map(second, person)


def same_ends(first, second, person):
    """True if both days end at the same minute, whenever the person leaves."""
    return end_map(first, person) == end_map(second, person)


def latest_leaving(day, person):
    """The last minute of leaving with which the day can be kept, or None.

    The latest start of the person's first meeting does not depend on the
    minute of leaving as long as the day can be kept.
    """
    row = day.person_named(person).meetings
    ends = latest_starts(leaving(day, person, 0))
    if len(row) == 0 or ends is None:
        return None
    way = day.leg_map(person, row[0])
    return way.back(ends[row[0]])
