"""What the tests compare the program with: the words of the document, minute by minute."""

import itertools
import random


def some_rows(rng, count=6, high=6):
    """Good rows of a map, seldom the shortest ones."""
    rows = []
    start = 0
    value = rng.randint(0, high)
    for _ in range(rng.randint(0, count)):
        grows = rng.random() < 0.5
        length = rng.randint(1, 5)
        if not grows:
            length = min(length, value - start + 1)
        rows.append((start, value, grows))
        last = value + length - 1 if grows else value
        start += length
        value = max(start, last + rng.choice([0, 0, 1, 1, 2, 4]))
    rows.append((start, value, True))
    return rows


def many_rows(seed, many):
    rng = random.Random(seed)
    return [some_rows(rng) for _ in range(many)]


def row_values(rows, many):
    """The values of the first minutes, as point 5 tells them."""
    values = []
    for minute in range(many):
        start, value, grows = [row for row in rows if row[0] <= minute][-1]
        values.append(value + (minute - start) if grows else value)
    return values


def point_six(value, until):
    """The rows of point 6 for a map that surely grows from the minute until on."""
    rows = []
    s = 0
    while True:
        m = s
        if value(s + 1) == value(s):
            while value(m + 1) == value(s):
                m += 1
            rows.append((s, value(s), False))
        elif value(s + 1) == value(s) + 1:
            while value(m + 1) == value(m) + 1:
                m += 1
                if m > until:
                    return tuple(rows + [(s, value(s), True)])
            rows.append((s, value(s), True))
        else:
            rows.append((s, value(s), False))
        s = m + 1


def slot_ride(length, minutes, leaving):
    """The arrival of one who leaves at once."""
    slot = leaving // length
    return leaving + (minutes[slot] if slot < len(minutes) else minutes[-1])


def slot_arrival(length, minutes, minute):
    """The least arrival of all leavings from the minute on."""
    far = max(minute, length * len(minutes)) + 1
    return min(slot_ride(length, minutes, u) for u in range(minute, far + 1))


def all_rows_of_ways(pairs, start, end, before=()):
    """All rows of told ways from the start to the end that come to no place twice."""
    if start == end:
        return [[]]
    found = []
    for here, there in pairs:
        if here == start and there not in before + (start,):
            for rest in all_rows_of_ways(pairs, there, end, before + (start,)):
                found.append([(here, there)] + rest)
    return found


def walk_arrival(roads, start, end, minute):
    """The least arrival over all rows of told ways, None if there is none."""
    arrivals = []
    for row in all_rows_of_ways(list(roads), start, end):
        now = minute
        for pair in row:
            now = roads[pair](now)
        arrivals.append(now)
    return min(arrivals) if arrivals else None


def walk_starts(roads, meetings, people, extra=None):
    """The earliest starts, found by walking along all rows until nothing changes.

    meetings are tuples (name, place, opens, latest, length), people tuples
    (name, home, leaves, names). extra has minutes that legs take longer.
    """
    extra = extra or {}
    table = {meeting[0]: meeting for meeting in meetings}
    starts = {meeting[0]: meeting[2] for meeting in meetings}
    changed = True
    while changed:
        changed = False
        for person, home, leaves, names in people:
            place, now = home, leaves
            for name in names:
                now = walk_arrival(roads, place, table[name][1], now) + extra.get((person, name), 0)
                if now > starts[name]:
                    starts[name] = now
                    changed = True
                place = table[name][1]
                now = starts[name] + table[name][4]
    return starts


def walk_fault(roads, meetings, people, starts):
    """What point 19 says of the starts."""
    table = {meeting[0]: meeting for meeting in meetings}
    for name, place, opens, latest, _ in meetings:
        if starts[name] < opens:
            return (name, "early", None)
        if starts[name] > latest:
            return (name, "late", None)
        for person, home, leaves, names in people:
            if name in names:
                at = names.index(name)
                here, now = home, leaves
                if at > 0:
                    before = table[names[at - 1]]
                    here, now = before[1], starts[before[0]] + before[4]
                if walk_arrival(roads, here, place, now) > starts[name]:
                    return (name, "arrives", person)
    return None


def told_legs(parts):
    """All legs with (meeting before or None, place there, place of the meeting, length or None)."""
    _, meetings, people = parts
    table = {meeting[0]: meeting for meeting in meetings}
    legs = {}
    for person, home, _, names in people:
        before, place = None, home
        for name in names:
            legs[person, name] = (before, place, table[name][1], table[before][4] if before else None)
            before, place = name, table[name][1]
    return legs


def leg_arrival(parts, leg, minute, late=0, long=0):
    """The arrival if the meeting before starts (or the person leaves home) at the minute."""
    _, here, there, length = told_legs(parts)[leg]
    return walk_arrival(parts[0], here, there, minute + (length or 0) + long) + late


def leaving_home(parts, person):
    return {row[0]: row[2] for row in parts[2]}[person]


def read_chain(parts, rows, legs=None, lengths=None, most=None):
    """What points 21 and 31 say of the rows: what they show, or ("bad", row, reason).

    Without legs they are a chain as in point 21.
    """
    names = [meeting[0] for meeting in parts[1]]
    persons = [row[0] for row in parts[2]]
    count = 0
    shown = None
    for at, row in enumerate(rows):
        if at == 0:
            if len(row) != 2 or (row[0], row[1] in names, row[1] in persons) not in [
                ("opens", True, True), ("opens", True, False), ("leaves", True, True), ("leaves", False, True),
            ]:
                return ("bad", 0, "start")
            if row[0] == "opens":
                shown = (row[1], {meeting[0]: meeting[2] for meeting in parts[1]}[row[1]])
            else:
                shown = (None, leaving_home(parts, row[1]))
            continue
        if len(row) != (2 if legs is None else 4) or tuple(row[:2]) not in told_legs(parts):
            return ("bad", at, "leg")
        leg = tuple(row[:2])
        before = told_legs(parts)[leg][0]
        stands = ("home of", rows[0][1]) if shown[0] is None else ("meeting", shown[0])
        if stands != (("meeting", before) if before else ("home of", leg[0])):
            return ("bad", at, "link")
        late = long = 0
        if legs is not None:
            for part, table, key in ((row[2], legs, leg), (row[3], lengths, before)):
                if part.__class__ is not bool or (part and key not in table):
                    return ("bad", at, "change")
            late = legs[leg] if row[2] else 0
            long = lengths[before] if row[3] else 0
            count += row[2] + row[3]
        shown = (leg[1], leg_arrival(parts, leg, shown[1], late, long))
    if shown is None:
        return ("bad", 0, "start")
    if shown[0] is None:
        return ("bad", 0, "end")
    if legs is None:
        return shown
    return shown + (count,) if count <= most else ("bad", len(rows), "most")


def all_chains(parts):
    """All chains of point 21 that end at a meeting."""
    found = [[("opens", meeting[0])] for meeting in parts[1]]
    legs = told_legs(parts)
    found += [[("leaves", leg[0]), leg] for leg in legs if legs[leg][0] is None]
    for rows in found:
        found += [rows + [leg] for leg in legs if legs[leg][0] == rows[-1][1]]
    return found


def sets_of(things, most):
    """All sets of at most so many of the things, as tuples."""
    return [chosen for size in range(most + 1) for chosen in itertools.combinations(things, size)]


def changed_starts(parts, legs, lengths, chosen):
    """The earliest starts if the chosen changes have come."""
    roads, meetings, people = parts
    longer = [meeting[:4] + (meeting[4] + (lengths[meeting[0]] if meeting[0] in chosen else 0),) for meeting in meetings]
    return walk_starts(roads, longer, people, {leg: legs[leg] for leg in legs if leg in chosen})


def worst_starts(parts, legs, lengths, most):
    """Point 29, by all sets of changes one by one."""
    changes = list(legs) + list(lengths)
    table = {meeting[0]: [] for meeting in parts[1]}
    for many in range(most + 1):
        all_starts = [changed_starts(parts, legs, lengths, chosen) for chosen in sets_of(changes, many)]
        for name in table:
            table[name].append(max(starts[name] for starts in all_starts))
    return {name: tuple(entries) for name, entries in table.items()}


def table_holds(parts, legs, lengths, most, table):
    """Point 30."""
    for name, _, opens, _, _ in parts[1]:
        row = table.get(name)
        if row.__class__ not in (list, tuple) or len(row) != most + 1:
            return False
        if any(entry.__class__ is not int or entry < opens for entry in row):
            return False
    for (person, name), (before, _, _, _) in told_legs(parts).items():
        late_minutes = [0] + [legs[leg] for leg in [(person, name)] if leg in legs]
        long_minutes = [0] + [lengths[key] for key in [before] if key in lengths]
        for late, long in itertools.product(late_minutes, long_minutes):
            spent = (late > 0) + (long > 0)
            for many in range(spent, most + 1):
                begin = table[before][many - spent] if before else leaving_home(parts, person)
                if table[name][many] < leg_arrival(parts, (person, name), begin, late, long):
                    return False
    return True


def in_time_from(parts, legs, lengths, name, minute, many):
    """True if the meeting at the minute and all behind it are in time, as point 32 says.

    Nobody waits; at most so many changes come from its length on. One who
    would leave before 0 leaves at 0.
    """
    table = {meeting[0]: meeting for meeting in parts[1]}
    if minute > table[name][3]:
        return False
    for (person, behind), (before, _, _, length) in told_legs(parts).items():
        if before == name:
            late_minutes = [0] + [legs[leg] for leg in [(person, behind)] if leg in legs]
            long_minutes = [0] + [lengths[key] for key in [name] if key in lengths]
            for late, long in itertools.product(late_minutes, long_minutes):
                left = many - (late > 0) - (long > 0)
                comes = leg_arrival(parts, (person, behind), max(minute + long, -length), late) if left >= 0 else 0
                if left >= 0 and not in_time_from(parts, legs, lengths, behind, comes, left):
                    return False
    return True


def told_at_least(parts, legs, lengths, most, name):
    """All minutes to which the meeting can be told, by all changes and minutes."""
    _, meetings, _ = parts
    opens, latest = [(meeting[2], meeting[3]) for meeting in meetings if meeting[0] == name][0]
    found = list(range(opens, latest + 1))
    for chosen in sets_of(list(legs) + list(lengths), most):
        first = changed_starts(parts, legs, lengths, chosen)[name]
        fits = []
        for minute in found:
            told = [row[:2] + (minute,) + row[3:] if row[0] == name else row for row in meetings]
            starts = changed_starts((parts[0], told, parts[2]), legs, lengths, chosen) if first <= minute else {}
            if starts and all(starts[row[0]] <= row[3] for row in meetings):
                fits.append(minute)
        found = fits
    return found


class Game:
    """Points 33 to 35, as a game over places, minutes and options."""

    def __init__(self, roads, places, stages):
        self.roads, self.places, self.stages = roads, places, stages
        self.known, self.comes = {}, {}

    def arrival(self, here, there, minute):
        if (here, there, minute) not in self.comes:
            self.comes[here, there, minute] = walk_arrival(self.roads, here, there, minute)
        return self.comes[here, there, minute]

    def ends(self, stage, place, minute, wait):
        """For each option (place, end), or None if some option is late or no way leads there."""
        told, options = self.stages[stage]
        now = self.arrival(place, wait, minute)
        if now is None:
            return None
        if len(options) > 1:
            now = max(now, told)
        found = []
        for there, opens, latest, length in options:
            comes = self.arrival(wait, there, now)
            if comes is None or max(comes, opens) > latest:
                return None
            found.append((there, max(comes, opens) + length))
        return found

    def waits(self, stage, place, minute):
        """All places at which one can wait."""
        found = []
        for wait in self.places:
            ends = self.ends(stage, place, minute, wait)
            if ends is not None and all(self.keeps(stage + 1, there, end) for there, end in ends):
                found.append(wait)
        return found

    def keeps(self, stage, place, minute):
        if stage == len(self.stages):
            return True
        if (stage, place, minute) not in self.known:
            self.known[stage, place, minute] = self.waits(stage, place, minute) != []
        return self.known[stage, place, minute]

    def deadline(self, stage, place, until):
        kept = [minute for minute in range(until) if self.keeps(stage, place, minute)]
        return kept[-1] if kept else None

    def latest_telling(self, stage, place, minute, minutes):
        fits = []
        for told in minutes:
            stages = list(self.stages)
            stages[stage] = (told, stages[stage][1])
            other = Game(self.roads, self.places, stages)
            other.comes = self.comes
            if other.keeps(stage, place, minute):
                fits.append(told)
        return max(fits) if fits else None


def plan_fault(game, rows):
    """The first (row, reason) of point 36, or None."""
    def is_number(value):
        return value.__class__ is int

    for at, (stage, place, wait, minute) in enumerate(rows):
        if not is_number(stage) or not 0 <= stage < len(game.stages):
            return (at, "stage")
        if place not in game.places or wait not in game.places or game.arrival(place, wait, 0) is None:
            return (at, "place")
        if not is_number(minute) or minute < 0:
            return (at, "minute")
        ends = game.ends(stage, place, minute, wait)
        if ends is None:
            return (at, "late")
        for there, end in ends:
            behind = [row for row in rows if is_number(row[0]) and row[0] == stage + 1 and row[1] == there]
            if stage + 1 < len(game.stages) and not any(is_number(row[3]) and row[3] >= end for row in behind):
                return (at, "next")
    return None


class Errands:
    """Point 37, by all orders one by one."""

    def __init__(self, roads, errands):
        self.roads, self.errands = roads, errands
        self.comes = {}

    def arrival(self, here, there, minute):
        if (here, there, minute) not in self.comes:
            self.comes[here, there, minute] = walk_arrival(self.roads, here, there, minute)
        return self.comes[here, there, minute]

    def end(self, place, minute, order):
        """The end if they are done in this order, None if that cannot be."""
        for number in order:
            there, opens, latest, length = self.errands[number]
            comes = self.arrival(place, there, minute)
            if comes is None or max(comes, opens) > latest:
                return None
            place, minute = there, max(comes, opens) + length
        return minute

    def best(self, place, minute):
        """The least (end, order), or None."""
        found = []
        for order in itertools.permutations(range(len(self.errands))):
            end = self.end(place, minute, order)
            if end is not None:
                found.append((end, order))
        return min(found) if found else None

    def latest(self, place, until):
        """The greatest minute below until at which one can begin, or None."""
        fits = [minute for minute in range(until) if self.best(place, minute) is not None]
        return fits[-1] if fits and self.errands else None
