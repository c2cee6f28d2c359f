"""One person who is told late to which of some places to go next.

An option is (place, opens, latest, length). A bound of a place is the last
minute at which one who waits there may be told and still keep all that comes.
"""

from laterways.day import LAST_MINUTE, check_times
from laterways.errors import BadName, BadPaper
from laterways.rising import sooner
from laterways.words import check_number, greater, is_integer, lesser

MOST_STAGES = 6
MOST_OPTIONS = 6


def check_place(places, place):
    """Raise BadName if it is none of the places."""
    if place not in places:
        raise BadName(place)


def check_option(places, option):
    """Raise the error of the first part that cannot be."""
    place, opens, latest, length = option
    check_place(places, place)
    check_times(opens, latest, length)


def read_stage(places, stage):
    """The stage as a tuple of tuples; an error if it cannot be."""
    told, options = stage
    check_number("told", told, 0, LAST_MINUTE)
    check_number("options", len(options), 1, MOST_OPTIONS)
    for option in options:
        check_option(places, option)
    return (told, tuple([tuple(option) for option in options]))


def known_minute(stage):
    """The minute at which the option is told; a single one is known from the beginning."""
    told, options = stage
    return told if len(options) > 1 else 0


def latest_arrival(option, ends):
    """The last arrival at the option with which it and all behind it can be kept, or None.

    ends has the deadlines of the next stage, and is None behind the last one.
    """
    place, opens, latest, length = option
    if ends is not None:
        if ends[place] is None:
            return None
        latest = lesser(latest, ends[place] - length)
    return latest if latest >= opens else None


def bound_at(least, options, ends):
    """The bound of a place from which least has the maps, or None if some option cannot be kept."""
    bound = None
    for option in options:
        latest = latest_arrival(option, ends)
        if latest is None or option[0] not in least:
            return None
        leaving = least[option[0]].back(latest)
        if leaving is None:
            return None
        bound = sooner(bound, leaving)
    return bound


def deadline_from(least, known, bounds):
    """The last minute to begin at a place from which least has the maps, or None."""
    found = None
    for wait in least:
        if bounds[wait] is not None and bounds[wait] >= known:
            leaving = least[wait].back(bounds[wait])
            if leaving is not None:
                found = leaving if found is None else greater(found, leaving)
    return found


def option_end(least, option, minute):
    """The end of the option if one leaves at the minute a place from which least has the maps, or None."""
    place, opens, latest, length = option
    if place not in least:
        return None
    way = least[place]
    start = greater(way(minute), opens)
    return start + length if start <= latest else None


class Told:
    """The plan of one person, whose stages have options that are told late."""

    def __init__(self, ways, stages):
        check_number("stages", len(stages), 0, MOST_STAGES)
        self._stages = [read_stage(ways.places, stage) for stage in stages]
        self.ways = ways.copy()
        self._least = ways.reach_all()
        self._bounds = []
        self._ends = []
        self.reckon()

    def reckon(self):
        """Find the bounds and deadlines of all stages, from the last one on."""
        ends = None
        for stage in self._stages[::-1]:
            bounds = {place: bound_at(self._least[place], stage[1], ends) for place in self._least}
            known = known_minute(stage)
            ends = {place: deadline_from(self._least[place], known, bounds) for place in self._least}
            self._bounds.insert(0, bounds)
            self._ends.insert(0, ends)

    def count_stages(self):
        """The number of stages."""
        return len(self._stages)

    def leads(self, place, wait):
        """True if both are places and one can go from the first to the second one."""
        return place in self._least and wait in self._least[place]

    def option_ends(self, stage, place, wait, minute):
        """For each option (place, end) if one goes at the minute to the place wait; the end is None if it is late."""
        way = self._least[place][wait]
        minute = greater(way(minute), known_minute(self._stages[stage]))
        return [(option[0], option_end(self._least[wait], option, minute)) for option in self._stages[stage][1]]

    def reached(self, stage, place, minute):
        """All (wait, bound) of places to which one comes by their bound, in their order."""
        found = []
        for wait in self.ways.places:
            bound = self._bounds[stage][wait]
            if bound is not None and self.leads(place, wait):
                way = self._least[place][wait]
                if way(minute) <= bound:
                    found.append((wait, bound))
        return found

    def check_begin(self, stage, place, most):
        """Raise an error if no stage can begin so."""
        check_number("stage", stage, 0, most)
        check_place(self.ways.places, place)

    def deadline(self, stage, place):
        """The last minute to begin the stage at the place and keep all, or None."""
        self.check_begin(stage, place, len(self._stages))
        return None if stage == len(self._stages) else self._ends[stage][place]

    def keeps(self, stage, place, minute):
        """True if one who begins the stage so can keep all, whatever is told."""
        last = self.deadline(stage, place)
        check_number("minute", minute, 0, None)
        if stage == len(self._stages):
            return True
        return last is not None and minute <= last

    def wait_at(self, stage, place, minute):
        """The first place at which one can wait and keep all, or None."""
        self.check_begin(stage, place, len(self._stages) - 1)
        check_number("minute", minute, 0, None)
        known = known_minute(self._stages[stage])
        for wait, bound in self.reached(stage, place, minute):
            if known <= bound:
                return wait
        return None

    def latest_telling(self, stage, place, minute):
        """The greatest minute of telling with which one keeps all, or None."""
        self.check_begin(stage, place, len(self._stages) - 1)
        check_number("minute", minute, 0, None)
        latest = None
        for _, bound in self.reached(stage, place, minute):
            latest = bound if latest is None else greater(latest, bound)
        if latest is None:
            return None
        return LAST_MINUTE if len(self._stages[stage][1]) == 1 else lesser(latest, LAST_MINUTE)


def begins(rows, stage, place, end):
    """True if some row begins the stage at the place, not before the end."""
    for row in rows:
        if is_integer(row[0]) and row[0] == stage and row[1] == place and is_integer(row[3]) and row[3] >= end:
            return True
    return False


def plan_fault(told, rows, row):
    """The first reason for which the row is bad, or None."""
    stage, place, wait, minute = row
    last = told.count_stages() - 1
    if not is_integer(stage) or not 0 <= stage <= last:
        return "stage"
    if not told.leads(place, wait):
        return "place"
    if not is_integer(minute) or minute < 0:
        return "minute"
    ends = told.option_ends(stage, place, wait, minute)
    if any([end is None for _, end in ends]):
        return "late"
    if stage < last and not all([begins(rows, stage + 1, there, end) for there, end in ends]):
        return "next"
    return None


def check_plan(told, rows):
    """True if one who follows the rows keeps every option; else BadPaper."""
    for at, row in enumerate(rows):
        reason = plan_fault(told, rows, row)
        if reason is not None:
            raise BadPaper(at, reason)
    return True


def plan_table(told):
    """A row for each stage and place that has a deadline."""
    rows = []
    for stage in range(told.count_stages()):
        for place in told.ways.places:
            last = told.deadline(stage, place)
            if last is not None:
                rows.append((stage, place, told.wait_at(stage, place, last), last))
    return rows
