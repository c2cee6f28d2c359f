"""Meetings, people, and the days that are made of them."""

from laterways.errors import BadName, BadRing, BadWay
from laterways.ways import Ways
from laterways.words import check_name, check_new_name, check_number

LAST_MINUTE = 2880
LONGEST_MEETING = 600
MOST_MEETINGS = 10
MOST_PEOPLE = 4


def named(things, name):
    """The first meeting or person with the name; BadName if there is none."""
    for thing in things:
        if thing.name == name:
            return thing
    raise BadName(name)


def names_of(things):
    """The names of meetings or people, in order."""
    return [thing.name for thing in things]


def check_counts(meetings, people):
    """Raise BadNumber if a day cannot have so many of them."""
    check_number("meetings", meetings, 0, MOST_MEETINGS)
    check_number("people", people, 0, MOST_PEOPLE)


def check_times(opens, latest, length):
    """Raise BadNumber for the first one that no meeting may have."""
    check_number("opens", opens, 0, LAST_MINUTE)
    check_number("latest", latest, opens, LAST_MINUTE)
    check_number("length", length, 0, LONGEST_MEETING)


def check_known(day, *names):
    """Raise BadName for the first name that no meeting of the day has."""
    for name in names:
        if name not in day:
            raise BadName(name)


def check_meetings(places, meetings):
    """Raise BadName for the first name that is taken or place that is not there."""
    for count, meeting in enumerate(meetings):
        check_new_name(meeting.name, names_of(meetings[:count]))
        if meeting.place not in places:
            raise BadName(meeting.place)


def check_people(places, meetings, people):
    """Raise BadName for the first name, home or meeting that cannot be."""
    known = names_of(meetings)
    for count, person in enumerate(people):
        check_new_name(person.name, names_of(people[:count]))
        if person.home not in places:
            raise BadName(person.home)
        for name in person.meetings:
            if name not in known:
                raise BadName(name)


def legs_of(people):
    """All legs, ordered by the people and their rows."""
    return tuple([(person.name, name) for person in people for name in person.meetings])


def read_maps(ways, meetings, people):
    """The maps of all legs; BadWay for the first one that cannot be read."""
    least = {}
    maps = {}
    for person in people:
        here = person.home
        for name in person.meetings:
            there = named(meetings, name).place
            if here not in least:
                least[here] = ways.reach(here)
            if there not in least[here]:
                raise BadWay(here, there)
            maps[person.name, name] = least[here][there]
            here = there
    return maps


def steps_of(people):
    """All pairs of meetings that stand one directly behind the other in a row."""
    return [pair for person in people for pair in zip(person.meetings, person.meetings[1:])]


def missing_before(name, steps, order):
    """The meetings directly before this one that the order does not have."""
    return [first for first, second in steps if second == name and first not in order]


def ring_in(steps, rest, order):
    """A ring among the meetings that the order does not have, the rest.

    Each of them has one of them before it, so going back comes to a meeting
    again.
    """
    walk = []
    name = rest[0]
    while name not in walk:
        walk.append(name)
        name = missing_before(name, steps, order)[0]
    ring = walk[walk.index(name):]
    return ring[::-1]


def order_of(meetings, people):
    """All names, each behind those before it; BadRing if that cannot be."""
    steps = steps_of(people)
    rest = names_of(meetings)
    order = []
    while len(rest) > 0:
        ready = [name for name in rest if len(missing_before(name, steps, order)) == 0]
        if len(ready) == 0:
            raise BadRing(ring_in(steps, rest, order))
        order.append(ready[0])
        rest = [name for name in rest if name != ready[0]]
    return order


class Meeting:
    """A meeting at a place, with the minutes at which it may start."""

    def __init__(self, name, place, opens, latest, length):
        self.name = check_name(name)
        self.place = check_name(place)
        check_times(opens, latest, length)
        self.opens = opens
        self.latest = latest
        self.length = length

    def __eq__(self, other):
        return (
            isinstance(other, Meeting) and self.name == other.name and self.place == other.place
            and self.opens == other.opens and self.latest == other.latest and self.length == other.length
        )


class Person:
    """A person who leaves home and attends a row of meetings."""

    def __init__(self, name, home, leaves, *meetings):
        self.name = check_name(name)
        self.home = check_name(home)
        self.leaves = check_number("leaves", leaves, 0, LAST_MINUTE)
        for count, meeting in enumerate(meetings):
            check_new_name(meeting, meetings[:count])
        self.meetings = meetings

    def __eq__(self, other):
        return (
            isinstance(other, Person) and self.name == other.name and self.home == other.home
            and self.leaves == other.leaves and self.meetings == other.meetings
        )


class Day:
    """Meetings and people, with the maps of the legs between them."""

    def __init__(self, ways, meetings, people):
        self.meetings = tuple(meetings)
        self.people = tuple(people)
        check_counts(len(self.meetings), len(self.people))
        check_meetings(ways.places, self.meetings)
        check_people(ways.places, self.meetings, self.people)
        self.legs = legs_of(self.people)
        self._maps = read_maps(ways, self.meetings, self.people)
        self._order = order_of(self.meetings, self.people)

    def person_named(self, name):
        """The person with the name; BadName if there is none."""
        return named(self.people, name)

    def leg_map(self, person, name):
        """The map of the way of the leg."""
        if name not in self.person_named(person).meetings:
            raise BadName(name)
        return self._maps[person, name]

    def leg_maps(self):
        """The maps of the ways of all legs, in order."""
        return {leg: self._maps[leg] for leg in self.legs}

    def before(self, person, name):
        """The name of the meeting directly before this one in the row, or None."""
        row = self.person_named(person).meetings
        place = row.index(name)
        return row[place - 1] if place > 0 else None

    def behind(self, person, name):
        """The name of the meeting directly behind this one in the row, or None."""
        row = self.person_named(person).meetings
        place = row.index(name) + 1
        return row[place] if place < len(row) else None

    def attendees(self, name):
        """The names of the people who attend the meeting, in order."""
        named(self.meetings, name)
        return [person.name for person in self.people if name in person.meetings]

    def order(self):
        """All names of meetings, each behind those before it in some row."""
        return list(self._order)

    def __getitem__(self, at):
        return named(self.meetings, at)

    def __contains__(self, x):
        return x in names_of(self.meetings)

    # With items but without this, Python would try the items 0, 1, 2 ..
    def __iter__(self):
        raise TypeError("days are not iterated over")

    def __len__(self):
        return len(self.meetings)

    def __eq__(self, other):
        return (
            isinstance(other, Day) and self.meetings == other.meetings
            and self.people == other.people and self._maps == other._maps
        )

    def __add__(self, other):
        if not isinstance(other, Day):
            return NotImplemented
        for mine, others in ((self.people, other.people), (self.meetings, other.meetings)):
            for thing in others:
                check_new_name(thing.name, names_of(mine))
        check_counts(len(self.meetings) + len(other.meetings), len(self.people) + len(other.people))
        maps = {leg: self._maps[leg] for leg in self.legs}
        for leg in other.legs:
            maps[leg] = other._maps[leg]
        return day_of(self.meetings + other.meetings, self.people + other.people, maps)


def meeting_with(meeting, opens, latest, length):
    """The meeting with other times; the length may be of a changed day, so it has no limit."""
    made = Meeting(meeting.name, meeting.place, opens, latest, 0)
    made.length = length
    return made


def day_of(meetings, people, maps):
    """A day of parts that fit to each other, with the told maps of its legs."""
    made = Day(Ways("nowhere"), [], [])
    made.meetings = tuple(meetings)
    made.people = tuple(people)
    made.legs = legs_of(made.people)
    made._maps = {leg: maps[leg] for leg in made.legs}
    made._order = order_of(made.meetings, made.people)
    return made
