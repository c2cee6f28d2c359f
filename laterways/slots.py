"""Ways whose riding time depends on the slot in which one leaves."""

from laterways.rising import Rising
from laterways.words import check_number, lesser

LONGEST_SLOT = 720
MOST_SLOTS = 48
LONGEST_RIDE = 600


def check_slots(length, minutes):
    """Raise BadNumber for the first of the numbers that is not allowed."""
    check_number("length", length, 1, LONGEST_SLOT)
    check_number("slots", len(minutes), 1, MOST_SLOTS)
    for riding in minutes:
        check_number("riding", riding, 0, LONGEST_RIDE)


def by_slots(length, minutes):
    """The map of the way, on which one may wait for a later slot.

    The rows are found from behind: best is the arrival of one who waits for
    the next slot.
    """
    check_slots(length, minutes)
    start = length * (len(minutes) - 1)
    best = start + minutes[-1]
    rows = [(start, best, True)]
    for riding in minutes[-2::-1]:
        after = start
        start = start - length
        if start + riding >= best:
            rows.append((start, best, False))
        else:
            if best - riding < after:
                rows.append((best - riding, best, False))
            best = start + riding
            rows.append((start, best, True))
    return Rising(rows[::-1])


def ride(length, minutes, leaving):
    """The arrival of one who leaves at the minute, without waiting."""
    check_slots(length, minutes)
    check_number("minute", leaving, 0, None)
    return leaving + minutes[lesser(leaving // length, len(minutes) - 1)]
