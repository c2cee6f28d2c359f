"""How much longer legs may be, and how much time was left on them."""

from laterways.day import LAST_MINUTE, day_of
from laterways.earliest import arrival, can_be_kept, check_starts, earliest
from laterways.errors import NotKept
from laterways.moves import latest_starts
from laterways.words import check_number, lesser


def longer(day, n, *legs):
    """The day in which the told legs, or all legs if none is told, take n minutes more."""
    told = [(person, name) for person, name in legs]
    for person, name in told:
        day.leg_map(person, name)
    check_number("minutes", n, 0, None)
    maps = day.leg_maps()
    for leg in day.legs:
        if len(told) == 0 or leg in told:
            maps[leg] = maps[leg] + n
    return day_of(day.meetings, day.people, maps)


def kept_bounds(day):
    """The earliest and the latest starts; NotKept if the day cannot be kept."""
    ends = latest_starts(day)
    if ends is None:
        raise NotKept()
    return (earliest(day), ends)


def slack(day, person, name):
    """The most minutes by which the leg alone may be longer."""
    day.leg_map(person, name)
    starts, ends = kept_bounds(day)
    return ends[name] - arrival(day, person, name, starts)


def slacks(day):
    """The list of (person, name, slack) of all legs, in order."""
    starts, ends = kept_bounds(day)
    return [(person, name, ends[name] - arrival(day, person, name, starts)) for person, name in day.legs]


def slack_of_all(day):
    """The most minutes by which all legs together may be longer, None without legs.

    Where some minutes are too many, all that are more are too; so the search
    halves what is left. More than the slack of one leg alone never fits.
    """
    if len(day.legs) == 0:
        return None
    fits = 0
    most = LAST_MINUTE
    for row in slacks(day):
        most = lesser(most, row[2])
    while fits < most:
        middle = (fits + most + 1) // 2
        if can_be_kept(longer(day, middle)):
            fits = middle
        else:
            most = middle - 1
    return fits


def spare(day, starts):
    """For each leg the latest leaving, and the minutes left, by the told starts."""
    check_starts(day, starts)
    found = []
    for person, name in day.legs:
        way = day.leg_map(person, name)
        minutes = starts[name] - arrival(day, person, name, starts)
        found.append((person, name, way.back(starts[name]), minutes))
    return found
