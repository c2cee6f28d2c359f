"""Changes: legs and meetings that may take longer, and what happens at worst."""

from laterways.day import day_of, meeting_with
from laterways.earliest import arrival_after, in_day_order
from laterways.errors import BadName
from laterways.words import check_number, greater

LONGEST_EXTRA = 600
MOST_CHANGES = 20


class Changes:
    """Extra minutes of legs and of lengths of meetings; only so many of them come."""

    def __init__(self, legs, lengths, most):
        self.legs = {leg: legs[leg] for leg in legs}
        self.lengths = {name: lengths[name] for name in lengths}
        for extra in list(self.legs.values()) + list(self.lengths.values()):
            check_number("extra", extra, 1, LONGEST_EXTRA)
        self.most = check_number("most", most, 0, MOST_CHANGES)


def check_changes(day, changes):
    """Raise BadName for the first leg or meeting that the day does not have."""
    for leg in changes.legs:
        if leg not in day.legs:
            raise BadName(leg[1])
    for name in changes.lengths:
        if name not in day:
            raise BadName(name)


def extra_of(table, key, comes):
    """The extra minutes of a leg or a length if the change comes."""
    return table[key] if comes else 0


def different(chosen):
    """The chosen changes, each once."""
    return list({change: True for change in chosen})


def check_chosen(changes, chosen):
    """Raise an error unless changes has all of them, and so many may come."""
    for change in chosen:
        if change not in changes.legs and change not in changes.lengths:
            raise BadName(change)
    check_number("most", len(different(chosen)), 0, changes.most)


def changed(day, changes, chosen):
    """The day in which the chosen changes have come."""
    check_changes(day, changes)
    check_chosen(changes, chosen)
    meetings = []
    for meeting in day.meetings:
        length = meeting.length + extra_of(changes.lengths, meeting.name, meeting.name in chosen)
        meetings.append(meeting_with(meeting, meeting.opens, meeting.latest, length))
    maps = day.leg_maps()
    for leg in day.legs:
        maps[leg] = maps[leg] + extra_of(changes.legs, leg, leg in chosen)
    return day_of(meetings, day.people, maps)


def spendings(changes, before, leg, most):
    """All (late, long) of at most so many changes.

    late tells if the change of the leg comes, long if that of the length of
    the meeting before does.
    """
    lates = [False, True] if leg in changes.legs else [False]
    longs = [False, True] if before in changes.lengths else [False]
    return [(late, long) for late in lates for long in longs if int(late) + int(long) <= most]


def changed_arrival(day, changes, leg, late, long, minute):
    """The arrival at the leg's meeting if the one before starts at the minute."""
    person, name = leg
    extra = extra_of(changes.lengths, day.before(person, name), long)
    return arrival_after(day, person, name, minute, extra) + extra_of(changes.legs, leg, late)


def entry_before(day, person, name, table, many):
    """The entry of the meeting before in the row, or the minute of leaving home."""
    before = day.before(person, name)
    return day.person_named(person).leaves if before is None else table[before][many]


def arrivals(day, changes, name, table, many):
    """All (person, late, long, arrival) that at most so many changes give.

    The table has the entries of the meetings before.
    """
    found = []
    for person in day.attendees(name):
        leg = (person, name)
        for late, long in spendings(changes, day.before(person, name), leg, many):
            minute = entry_before(day, person, name, table, many - int(late) - int(long))
            found.append((person, late, long, changed_arrival(day, changes, leg, late, long, minute)))
    return found


def worst_entry(day, changes, name, table, many):
    """The greatest earliest start of the meeting with at most so many changes."""
    entry = day[name].opens
    for row in arrivals(day, changes, name, table, many):
        entry = greater(entry, row[3])
    return entry


def worst(day, changes):
    """For each meeting its greatest earliest starts with 0, 1, .. changes."""
    check_changes(day, changes)
    table = {}
    for name in day.order():
        entries = [worst_entry(day, changes, name, table, many) for many in range(changes.most + 1)]
        table[name] = tuple(entries)
    return in_day_order(day, table)


def delays(day, changes):
    """For each meeting how much later than its latest it may have to start."""
    table = worst(day, changes)
    return [table[meeting.name][-1] - meeting.latest for meeting in day.meetings]


def safe(day, changes):
    """True if all meetings can start in time whatever changes come."""
    return all([delay <= 0 for delay in delays(day, changes)])


def lateness(day, changes):
    """The greatest delay of a meeting, below 0 if all are early; None without meetings."""
    greatest = None
    for delay in delays(day, changes):
        greatest = delay if greatest is None else greater(greatest, delay)
    return greatest
