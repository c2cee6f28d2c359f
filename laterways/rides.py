"""Rides seen on one way, and what they tell of its map."""

from laterways.errors import BadRides
from laterways.rising import Rising
from laterways.words import check_integer, check_number, greater, lesser


def agree(row, left, came):
    """True if one map can have this row and the ride."""
    if row[0] <= left and row[1] > came:
        return False
    return row[0] < left or row[1] >= came


def check_ride(rows, place):
    """Raise an error if the ride is wrong, or does not agree with an earlier one."""
    left, came = rows[place]
    check_number("left", left, 0, None)
    check_number("came", came, left, None)
    if not all([agree(row, left, came) for row in rows[:place]]):
        raise BadRides(place)


def since_ride(left, came):
    """The least map that has this ride."""
    later = [(left, came, False), (came + 1, came + 1, True)]
    return Rising(later if left == 0 else [(0, 0, True)] + later)


class Rides:
    """Rides (left, came) of one way, which one map can have together."""

    def __init__(self, *rows):
        for place in range(len(rows)):
            check_ride(rows, place)
        self.rows = tuple([(left, came) for left, came in rows])

    def at_least(self, minute):
        """The least value at the minute of all maps with these rides."""
        check_number("minute", minute, 0, None)
        least = minute
        for left, came in self.rows:
            if left <= minute:
                least = greater(least, came)
        return least

    def at_most(self, minute):
        """The greatest value at the minute of all maps with these rides, None if there is no bound."""
        check_number("minute", minute, 0, None)
        most = None
        for left, came in self.rows:
            if left >= minute:
                most = came if most is None else lesser(most, came)
        return most

    def low(self):
        """The map with the least value at each minute."""
        least = Rising.stay()
        for left, came in self.rows:
            least = least | since_ride(left, came)
        return least

    def fits(self, f):
        """True if the map has all these rides."""
        return all([f(left) == came for left, came in self.rows])

    def surely_late(self, left, minute):
        """True if every map with these rides arrives after the minute."""
        least = self.at_least(left)
        return least > check_integer("minute", minute)

    def surely_in_time(self, left, minute):
        """True if every map with these rides arrives by the minute."""
        most = self.at_most(left)
        check_integer("minute", minute)
        return most is not None and most <= minute

    def __contains__(self, x):
        return self.at_least(x) == self.at_most(x)

    def __add__(self, other):
        if not isinstance(other, Rides):
            return NotImplemented
        rows = self.rows + other.rows
        return Rides(*rows)
