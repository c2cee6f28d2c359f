"""Places and the ways between them."""

from laterways.errors import BadName, BadWay
from laterways.rising import Rising
from laterways.words import check_new_name, check_number

MOST_PLACES = 6


class Ways:
    """Told ways between some places; one may also go by other places."""

    def __init__(self, *places):
        check_number("places", len(places), 1, MOST_PLACES)
        for count, place in enumerate(places):
            check_new_name(place, places[:count])
        self.places = places
        self._roads = {}

    def check_places(self, start, end):
        """Raise BadName for the first one that is no place."""
        for place in (start, end):
            if place not in self.places:
                raise BadName(place)

    def told(self, start, end):
        """The told map of the way."""
        self.check_places(start, end)
        if (start, end) not in self._roads:
            raise BadWay(start, end)
        return self._roads[start, end]

    def pairs(self):
        """The starts and ends of all told ways, in the order of the places."""
        return [(start, end) for start in self.places for end in self.places if (start, end) in self._roads]

    def reach(self, start):
        """The least maps from the start to all places that one can come to.

        A place whose map became less is looked at again. Rows of ways that
        come back to a place are never less, so this ends.
        """
        found = {start: Rising.stay()}
        waiting = [start]
        while len(waiting) > 0:
            here = waiting.pop(0)
            for (begin, end), way in self._roads.items():
                if begin == here:
                    least = found[here] >> way
                    if end in found:
                        least = least & found[end]
                    if end not in found or least != found[end]:
                        found[end] = least
                        if end not in waiting:
                            waiting.append(end)
        return found

    def reach_all(self):
        """For each place the least maps from there to all places that one can come to."""
        return {place: self.reach(place) for place in self.places}

    def __getitem__(self, at):
        start, end = at
        self.check_places(start, end)
        found = self.reach(start)
        if end not in found:
            raise BadWay(start, end)
        return found[end]

    def __setitem__(self, at, worth):
        start, end = at
        self.check_places(start, end)
        if start == end:
            raise BadWay(start, end)
        self._roads[start, end] = worth

    def __contains__(self, x):
        start, end = x
        return start in self.places and end in self.reach(start)

    # With items but without this, Python would try the items 0, 1, 2 ..
    def __iter__(self):
        raise TypeError("ways are not iterated over")

    def __len__(self):
        return len(self._roads)

    def __eq__(self, other):
        return isinstance(other, Ways) and self.places == other.places and self._roads == other._roads

    def __le__(self, other):
        if not isinstance(other, Ways):
            return NotImplemented
        if self.places != other.places:
            return False
        for place in self.places:
            mine = self.reach(place)
            others = other.reach(place)
            if not all([end in mine and mine[end] <= others[end] for end in others]):
                return False
        return True

    def __add__(self, other):
        check_number("minutes", other, 0, None)
        longer = Ways(*self.places)
        longer._roads = {pair: way + other for pair, way in self._roads.items()}
        return longer

    def copy(self):
        """New ways that are equal to these."""
        return self + 0
