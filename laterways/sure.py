"""Minutes to which a meeting can be told for sure, whatever changes come."""

from laterways.changes import check_changes, extra_of, safe, spendings, worst
from laterways.day import check_known
from laterways.earliest import in_day_order
from laterways.moves import latest_before
from laterways.words import lesser


def latest_with(day, changes, leg, late, long, start):
    """The latest start of the meeting before in the row to arrive by the start, or None."""
    if start is None:
        return None
    person, name = leg
    found = latest_before(day, person, name, start - extra_of(changes.legs, leg, late))
    if found is None:
        return None
    return found - extra_of(changes.lengths, day.before(person, name), long)


def latest_entry(day, changes, name, table, many):
    """The latest start with which all behind it in the rows is in time, or None.

    The table has the entries of the meetings behind.
    """
    entry = day[name].latest
    for person in day.attendees(name):
        behind = day.behind(person, name)
        leg = (person, behind)
        choices = [] if behind is None else spendings(changes, name, leg, many)
        for late, long in choices:
            start = table[behind][many - int(late) - int(long)]
            found = latest_with(day, changes, leg, late, long, start)
            if found is None:
                return None
            entry = lesser(entry, found)
    return entry


def latest_under(day, changes):
    """For each meeting its latest starts with 0, 1, .. changes from its length on."""
    check_changes(day, changes)
    table = {}
    for name in day.order()[::-1]:
        entries = [latest_entry(day, changes, name, table, many) for many in range(changes.most + 1)]
        table[name] = tuple(entries)
    return in_day_order(day, table)


def surely(day, changes, name):
    """The first and the last minute to which the meeting can be told, or None."""
    check_changes(day, changes)
    check_known(day, name)
    first = worst(day, changes)[name][-1]
    last = latest_under(day, changes)[name][-1]
    if last is None or first > last or not safe(day, changes):
        return None
    return (first, last)
