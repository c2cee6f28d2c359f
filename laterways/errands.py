"""Errands that one person does in any order.

An errand is (place, opens, latest, length), as an option of a stage. A set of
errands is a number whose bit k stands for the errand k. least has for each
place the least maps to all places that one can come to from there.
"""

from laterways.day import LAST_MINUTE, LONGEST_MEETING
from laterways.told import check_option, check_place, latest_arrival, option_end
from laterways.words import check_number, greater, lesser

MOST_ERRANDS = 8


def check_errands(places, errands):
    """Raise BadNumber if there are too many, else the error of the first wrong one."""
    check_number("errands", len(errands), 0, MOST_ERRANDS)
    for errand in errands:
        check_option(places, errand)


def sets_before(errands, some):
    """All (number of an errand of the set, the set without it), ascending."""
    return [(k, some - (1 << k)) for k in range(len(errands)) if (some & (1 << k)) != 0]


def ends_with(least, errands, ends, some):
    """For each place the earliest end of the errands of the set, the last one there.

    ends has the same for all lesser sets. Who ends earlier may wait, so no
    other end is needed.
    """
    found = {}
    for k, before in sets_before(errands, some):
        there = errands[k][0]
        for here in ends[before]:
            end = option_end(least[here], errands[k], ends[before][here])
            if end is not None and (there not in found or end < found[there]):
                found[there] = end
    return found


def earliest_end(least, place, minute, errands):
    """The earliest end of all errands in some order, or None."""
    ends = [{place: minute}]
    for some in range(1, 1 << len(errands)):
        ends.append(ends_with(least, errands, ends, some))
    best = None
    for end in ends[-1].values():
        best = end if best is None else lesser(best, end)
    return best


def last_from(least, errands, lasts, some):
    """The last minute to begin the errands of the set at the place of these least maps, or None."""
    last = None
    for k, rest in sets_before(errands, some):
        latest = latest_arrival(errands[k], lasts[rest])
        if latest is not None and errands[k][0] in least:
            leaving = least[errands[k][0]].back(latest)
            if leaving is not None:
                last = leaving if last is None else greater(last, leaving)
    return last


def last_beginnings(least, errands, end):
    """For each set a table: for each place the last minute to begin there, or None.

    All errands of the set are done by the end, in some order.
    """
    lasts = [{place: end for place in least}]
    for some in range(1, 1 << len(errands)):
        lasts.append({place: last_from(least[place], errands, lasts, some) for place in least})
    return lasts


def first_order(least, place, minute, errands, lasts):
    """The first order in which all errands are done; lasts are those of their end."""
    order = []
    some = (1 << len(errands)) - 1
    while some > 0:
        fits = []
        for k, rest in sets_before(errands, some):
            there = errands[k][0]
            end = option_end(least[place], errands[k], minute)
            if end is not None and lasts[rest][there] is not None and end <= lasts[rest][there]:
                fits.append((k, rest, there, end))
        k, some, place, minute = fits[0]
        order.append(k)
    return tuple(order)


def best_end(ways, place, minute, errands):
    """The earliest end of all errands, and the first order that gives it; None if no order does."""
    check_place(ways.places, place)
    check_number("minute", minute, 0, None)
    check_errands(ways.places, errands)
    least = ways.reach_all()
    end = earliest_end(least, place, minute, errands)
    if end is None:
        return None
    lasts = last_beginnings(least, errands, end)
    return (end, first_order(least, place, minute, errands, lasts))


def latest_begin(ways, place, errands):
    """The last minute at which one can begin to do all errands in some order, or None."""
    check_place(ways.places, place)
    check_errands(ways.places, errands)
    if len(errands) == 0:
        return None
    lasts = last_beginnings(ways.reach_all(), errands, LAST_MINUTE + LONGEST_MEETING)
    return lasts[-1][place]
