"""Tables and changed chains: certificates for what happens at worst."""

from laterways.chains import check_end, read_leg, read_start
from laterways.changes import arrivals, changed_arrival, check_changes, worst
from laterways.day import check_known
from laterways.errors import BadPaper
from laterways.words import is_integer


def is_table_row(entries, opens, size):
    """True for a list or tuple of so many integers, none before opens."""
    if not isinstance(entries, (list, tuple)) or len(entries) != size:
        return False
    return all([is_integer(entry) and entry >= opens for entry in entries])


def has_rows(day, changes, table):
    """True if each meeting has a row of entries that could be starts."""
    size = changes.most + 1
    return all([
        meeting.name in table and is_table_row(table[meeting.name], meeting.opens, size) for meeting in day.meetings
    ])


def covers(day, changes, table, name, many):
    """True if nobody arrives after the entry by the entries before it."""
    entry = table[name][many]
    return all([row[3] <= entry for row in arrivals(day, changes, name, table, many)])


def check_table(day, changes, table):
    """True if the table shows that no meeting starts after its entries."""
    check_changes(day, changes)
    if not has_rows(day, changes, table):
        return False
    many = range(changes.most + 1)
    return all([covers(day, changes, table, meeting.name, count) for meeting in day.meetings for count in many])


def check_choice(changes, before, leg, row, place):
    """The two last parts of a row: if they can be, how the leg was changed."""
    late, long = row[2:]
    for comes, there in ((late, leg in changes.legs), (long, before in changes.lengths)):
        if comes is not False and (comes is not True or not there):
            raise BadPaper(place, "change")
    return (late, long)


def check_changed_chain(day, changes, rows):
    """The meeting of the last row, the minute shown for it, and how many changes came."""
    check_changes(day, changes)
    here, leaver, minute = read_start(day, rows)
    count = 0
    for place in range(1, len(rows)):
        leg = read_leg(day, rows, place, 4, here, leaver)
        late, long = check_choice(changes, here, leg, rows[place], place)
        minute = changed_arrival(day, changes, leg, late, long, minute)
        count = count + int(late) + int(long)
        here = leg[1]
    check_end(here)
    if count > changes.most:
        raise BadPaper(len(rows), "most")
    return (here, minute, count)


def worst_chain(day, changes, name):
    """A changed chain that shows the last entry of worst; it is found from behind."""
    check_changes(day, changes)
    check_known(day, name)
    table = worst(day, changes)
    many = changes.most
    rows = []
    here = name
    while table[here][many] != day[here].opens:
        found = arrivals(day, changes, here, table, many)
        person, late, long, _ = [row for row in found if row[3] == table[here][many]][0]
        rows.append((person, here, late, long))
        many = many - int(late) - int(long)
        here = day.before(person, here)
        if here is None:
            return [("leaves", person)] + rows[::-1]
    return [("opens", here)] + rows[::-1]
