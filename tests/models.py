"""What the tests compare the program with: the words of the document, minute by minute."""

import random


def some_rows(rng, count=6, high=6):
    """Good rows of a map, seldom the shortest ones."""
    rows = []
    start = 0
    value = rng.randint(0, high)
    for _ in range(rng.randint(0, count)):
        grows = rng.random() < 0.5
        length = rng.randint(1, 5)
        if not grows:
            length = min(length, value - start + 1)
        rows.append((start, value, grows))
        last = value + length - 1 if grows else value
        start += length
        value = max(start, last + rng.choice([0, 0, 1, 1, 2, 4]))
    rows.append((start, value, True))
    return rows


def many_rows(seed, many):
    rng = random.Random(seed)
    return [some_rows(rng) for _ in range(many)]


def row_values(rows, many):
    """The values of the first minutes, as point 5 tells them."""
    values = []
    for minute in range(many):
        start, value, grows = [row for row in rows if row[0] <= minute][-1]
        values.append(value + (minute - start) if grows else value)
    return values


def point_six(value, until):
    """The rows of point 6 for a map that surely grows from the minute until on."""
    rows = []
    s = 0
    while True:
        m = s
        if value(s + 1) == value(s):
            while value(m + 1) == value(s):
                m += 1
            rows.append((s, value(s), False))
        elif value(s + 1) == value(s) + 1:
            while value(m + 1) == value(m) + 1:
                m += 1
                if m > until:
                    return tuple(rows + [(s, value(s), True)])
            rows.append((s, value(s), True))
        else:
            rows.append((s, value(s), False))
        s = m + 1


def slot_ride(length, minutes, leaving):
    """The arrival of one who leaves at once."""
    slot = leaving // length
    return leaving + (minutes[slot] if slot < len(minutes) else minutes[-1])


def slot_arrival(length, minutes, minute):
    """The least arrival of all leavings from the minute on."""
    far = max(minute, length * len(minutes)) + 1
    return min(slot_ride(length, minutes, u) for u in range(minute, far + 1))


def all_rows_of_ways(pairs, start, end, before=()):
    """All rows of told ways from the start to the end that come to no place twice."""
    if start == end:
        return [[]]
    found = []
    for here, there in pairs:
        if here == start and there not in before + (start,):
            for rest in all_rows_of_ways(pairs, there, end, before + (start,)):
                found.append([(here, there)] + rest)
    return found


def walk_arrival(roads, start, end, minute):
    """The least arrival over all rows of told ways, None if there is none."""
    arrivals = []
    for row in all_rows_of_ways(list(roads), start, end):
        now = minute
        for pair in row:
            now = roads[pair](now)
        arrivals.append(now)
    return min(arrivals) if arrivals else None


def walk_starts(roads, meetings, people):
    """The earliest starts, found by walking along all rows until nothing changes.

    meetings are tuples (name, place, opens, latest, length), people tuples
    (name, home, leaves, names).
    """
    table = {meeting[0]: meeting for meeting in meetings}
    starts = {meeting[0]: meeting[2] for meeting in meetings}
    changed = True
    while changed:
        changed = False
        for _, home, leaves, names in people:
            place, now = home, leaves
            for name in names:
                now = walk_arrival(roads, place, table[name][1], now)
                if now > starts[name]:
                    starts[name] = now
                    changed = True
                place = table[name][1]
                now = starts[name] + table[name][4]
    return starts


def walk_fault(roads, meetings, people, starts):
    """What point 19 says of the starts."""
    table = {meeting[0]: meeting for meeting in meetings}
    for name, place, opens, latest, _ in meetings:
        if starts[name] < opens:
            return (name, "early", None)
        if starts[name] > latest:
            return (name, "late", None)
        for person, home, leaves, names in people:
            if name in names:
                at = names.index(name)
                here, now = home, leaves
                if at > 0:
                    before = table[names[at - 1]]
                    here, now = before[1], starts[before[0]] + before[4]
                if walk_arrival(roads, here, place, now) > starts[name]:
                    return (name, "arrives", person)
    return None
