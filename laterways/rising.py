"""Rising maps: the earliest arrival for each minute of leaving.

A row is (start, value, grows). The functions of this file work on lists and
tuples of rows; the last row covers all later minutes.
"""

from laterways.errors import BadRows
from laterways.words import check_integer, check_number, greater, is_integer, lesser


def row_value(row, minute):
    """The value at a minute that the row covers."""
    start, value, grows = row
    return value + minute - start if grows else value


def start_of(rows, place):
    """The start of the row at the place, None behind the last row."""
    return rows[place][0] if place < len(rows) else None


def last_place(rows, part, limit):
    """The place of the last row whose part is at most the limit, or -1.

    The part is 0 for the starts and 1 for the values: both only go up.
    """
    low = 0
    high = len(rows)
    while low < high:
        middle = (low + high) // 2
        if rows[middle][part] <= limit:
            low = middle + 1
        else:
            high = middle
    return low - 1


def follows(before, start, value):
    """True if a row with this start and value may stand behind a good row."""
    if start <= before[0]:
        return False
    last = row_value(before, start - 1)
    return start - 1 <= last <= value


def is_good_row(rows, place):
    """True if the row may stand at its place; all rows before it are good."""
    start, value, grows = rows[place]
    if not is_integer(start) or not is_integer(value) or value < start:
        return False
    if place == len(rows) - 1 and not grows:
        return False
    if place == 0:
        return start == 0
    return follows(rows[place - 1], start, value)


def check_rows(rows):
    """The rows themselves; BadRows with the place of the first bad one."""
    if len(rows) == 0:
        raise BadRows(0)
    for place in range(len(rows)):
        if not is_good_row(rows, place):
            raise BadRows(place)
    return rows


def shortest(rows):
    """The rows that depend on the values alone, as a tuple.

    The first three minutes of a row are looked at one by one: the first one
    may belong to the row before, the third one surely goes on as the second
    one began. So all minutes behind it belong to the row that is open then.
    """
    done = []
    begin, first, step, last = 0, rows[0][1], None, rows[0][1]
    for place, row in enumerate(rows):
        after = start_of(rows, place + 1)
        if after is None:
            after = row[0] + 3
        for minute in range(greater(row[0], 1), lesser(after, row[0] + 3)):
            value = row_value(row, minute)
            rise = value - last
            if step is None and rise in (0, 1):
                step = rise
            elif rise != step:
                done.append((begin, first, step == 1))
                begin, first, step = minute, value, None
            last = value
        last = row_value(row, after - 1)
    done.append((begin, first, True))
    return tuple(done)


def sooner(one, two):
    """The lesser one of two minutes; None stands for never."""
    if one is None or two is None:
        return two if one is None else one
    return lesser(one, two)


def pieces(first, second):
    """All stretches on which both maps keep their row.

    Each is (start, start of the next one or None, row, row).
    """
    found = []
    here = there = start = 0
    while True:
        one = start_of(first, here + 1)
        two = start_of(second, there + 1)
        after = sooner(one, two)
        found.append((start, after, first[here], second[there]))
        if after is None:
            return found
        here = here + 1 if one == after else here
        there = there + 1 if two == after else there
        start = after


def chosen(one, two, minute, upper):
    """The row from the minute on that has the greater (or lesser) value there.

    Where both values are equal, the minutes behind decide.
    """
    first = row_value(one, minute)
    second = row_value(two, minute)
    if first == second:
        grows = (one[2] or two[2]) if upper else (one[2] and two[2])
        return (minute, first, grows)
    if (first > second) == upper:
        return (minute, first, one[2])
    return (minute, second, two[2])


def joined(first, second, upper):
    """Rows with the greater (or lesser) of both values at each minute.

    On a stretch the rows come nearer by 1 each minute or not at all, so only
    one minute is left at which the other row may become the right one.
    """
    found = []
    for start, after, one, two in pieces(first, second):
        found.append(chosen(one, two, start, upper))
        turn = start + abs(row_value(one, start) - row_value(two, start))
        if start < turn and (after is None or turn < after):
            found.append(chosen(one, two, turn, upper))
    return found


def put_behind(first, second):
    """Rows with the second map at the values of the first one."""
    found = []
    place = 0
    for at, (start, value, grows) in enumerate(first):
        while place + 1 < len(second) and second[place + 1][0] <= value:
            place += 1
        row = second[place]
        found.append((start, row_value(row, value), grows and row[2]))
        if grows:
            after = start_of(first, at + 1)
            beyond = None if after is None else value + after - start
            while place + 1 < len(second) and (beyond is None or second[place + 1][0] < beyond):
                place += 1
                row = second[place]
                found.append((start + row[0] - value, row[1], row[2]))
    return found


def stretches(rows):
    """For each row (first, last): the minutes that have its first value."""
    found = []
    for place, (start, value, grows) in enumerate(rows):
        first = start
        if place > 0 and row_value(rows[place - 1], start - 1) == value:
            first = start - 1
        last = start if grows else rows[place + 1][0] - 1
        found.append((first, last))
    return found


def row_text(row):
    """The row as a word; a plus stands for growing."""
    start, value, grows = row
    return f"{start}:{value}+" if grows else f"{start}:{value}"


class Rising:
    """A map that never falls, is never below the minute, and grows at last."""

    def __init__(self, rows):
        self.rows = shortest(check_rows(list(rows)))

    @staticmethod
    def stay():
        """The map that changes nothing."""
        return Rising([(0, 0, True)])

    @staticmethod
    def steady(minutes):
        """The map that takes the same time at each minute."""
        check_number("minutes", minutes, 0, None)
        return Rising([(0, minutes, True)])

    @staticmethod
    def since(minute):
        """The map that waits for the minute."""
        check_number("minute", minute, 0, None)
        return Rising([(0, minute, False), (minute + 1, minute + 1, True)])

    def __call__(self, t):
        check_number("minute", t, 0, None)
        return row_value(self.rows[last_place(self.rows, 0, t)], t)

    def back(self, minute):
        """The greatest minute whose value is at most the given one, or None."""
        check_integer("minute", minute)
        place = last_place(self.rows, 1, minute)
        if place < 0:
            return None
        start, value, grows = self.rows[place]
        after = start_of(self.rows, place + 1)
        if after is None:
            return start + minute - value
        return lesser(after - 1, start + minute - value) if grows else after - 1

    def levels(self, *, least=2):
        """All longest stretches with one value of at least so many minutes."""
        check_number("least", least, 2, None)
        return [(first, last) for first, last in stretches(self.rows) if last - first + 1 >= least]

    def __eq__(self, other):
        return isinstance(other, Rising) and self.rows == other.rows

    def __le__(self, other):
        if not isinstance(other, Rising):
            return NotImplemented
        return (self | other).rows == other.rows

    def __or__(self, other):
        if not isinstance(other, Rising):
            return NotImplemented
        return Rising(joined(self.rows, other.rows, True))

    def __and__(self, other):
        if not isinstance(other, Rising):
            return NotImplemented
        return Rising(joined(self.rows, other.rows, False))

    def __rshift__(self, other):
        if not isinstance(other, Rising):
            return NotImplemented
        return Rising(put_behind(self.rows, other.rows))

    def __add__(self, other):
        check_number("minutes", other, 0, None)
        return Rising([(start, value + other, grows) for start, value, grows in self.rows])

    def __radd__(self, other):
        return self + other

    def __len__(self):
        return len(self.rows)

    def __iter__(self):
        return iter(self.rows)

    def __str__(self):
        return " ".join([row_text(row) for row in self.rows])
