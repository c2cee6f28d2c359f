"""Latest starts, and the minutes to which meetings can be moved."""

from laterways.day import LAST_MINUTE, check_known, day_of, meeting_with
from laterways.earliest import can_be_kept, earliest, in_day_order
from laterways.rising import Rising
from laterways.words import check_number, greater, lesser


def latest_before(day, person, name, start):
    """The latest start of the meeting before in the row to arrive by the start.

    None if the start cannot be reached at all.
    """
    way = day.leg_map(person, name)
    leaving = way.back(start)
    return None if leaving is None else leaving - day[day.before(person, name)].length


def latest_starts(day):
    """The latest start of each meeting, or None if the day cannot be kept."""
    if not can_be_kept(day):
        return None
    starts = {}
    for name in day.order()[::-1]:
        start = day[name].latest
        for person in day.attendees(name):
            behind = day.behind(person, name)
            if behind is not None:
                start = lesser(start, latest_before(day, person, behind, starts[behind]))
        starts[name] = start
    return in_day_order(day, starts)


def moves(day, name):
    """The first and the last minute to which the meeting can be moved, or None."""
    check_known(day, name)
    ends = latest_starts(day)
    return None if ends is None else (earliest(day)[name], ends[name])


def fixed(day, name, minute):
    """The day in which the meeting starts exactly at the minute."""
    check_known(day, name)
    check_number("minute", minute, 0, LAST_MINUTE)
    meetings = [
        meeting_with(meeting, minute, minute, meeting.length) if meeting.name == name else meeting
        for meeting in day.meetings
    ]
    return day_of(meetings, day.people, day.leg_maps())


def moves_with(day, name, minute, other):
    """The moves of the other meeting if the first one starts at the minute."""
    check_known(day, name, other)
    check_number("minute", minute, 0, LAST_MINUTE)
    if not day[name].opens <= minute <= day[name].latest:
        return None
    return moves(fixed(day, name, minute), other)


def driven(day, first, second):
    """The map from the start of the first meeting to that to which it drives the second one.

    It changes nothing where the second one does not stand behind the first.
    """
    found = {first: Rising.stay()}
    for name in day.order():
        for person in day.attendees(name):
            before = day.before(person, name)
            if before in found:
                way = (found[before] + day[before].length) >> day.leg_map(person, name)
                found[name] = found[name] | way if name in found else way
    return found.get(second, Rising.stay())


def meet_at(day, first, second):
    """All minutes at which both meetings can start together.

    The least starts with both of them at a minute are the greater ones of
    those with one of them there. So the minute fits exactly if each one alone
    can be moved there and neither of them drives the other one further.
    """
    check_known(day, first, second)
    one, two = moves(day, first), moves(day, second)
    if one is None:
        return []
    minutes = range(greater(one[0], two[0]), lesser(one[1], two[1]) + 1)
    forth, back = driven(day, first, second), driven(day, second, first)
    return [minute for minute in minutes if forth(minute) == minute and back(minute) == minute]
