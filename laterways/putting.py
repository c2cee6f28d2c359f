"""Meetings that are put into the rows of people, or taken out of them.

least has for each place the least maps to all places that one can come to
from there.
"""

from laterways.day import MOST_MEETINGS, Person, day_of, named
from laterways.errors import BadName, BadRing, BadWay, TooMany
from laterways.moves import moves
from laterways.told import check_place
from laterways.words import check_number

MOST_GAP_ROWS = 200


def person_with(person, row):
    """The person with another row of meetings."""
    return Person(person.name, person.home, person.leaves, *row)


def new_steps(day, person):
    """The pairs (meeting before or None, meeting) of the row that the day does not have."""
    found = []
    before = None
    for name in person.meetings:
        if (person.name, name) not in day.legs or day.before(person.name, name) != before:
            found.append((before, name))
        before = name
    return found


def new_legs(day, meetings, people, names):
    """All (leg, start, end) of the named people that come from elsewhere than in the day."""
    found = []
    for name in names:
        person = named(people, name)
        for before, behind in new_steps(day, person):
            start = person.home if before is None else named(meetings, before).place
            found.append(((name, behind), start, named(meetings, behind).place))
    return found


def with_rows(day, least, meetings, people, names):
    """The day with other rows of the named people; their new legs have the least maps."""
    legs = new_legs(day, meetings, people, names)
    for _, start, end in legs:
        check_place(least, start)
        check_place(least, end)
    maps = day.leg_maps()
    for leg, start, end in legs:
        if end not in least[start]:
            raise BadWay(start, end)
        maps[leg] = least[start][end]
    return day_of(meetings, people, maps)


def put_behind(day, least, meeting, gaps):
    """The day with the meeting; all names and gaps are right."""
    people = []
    for person in day.people:
        if person.name in gaps:
            gap = gaps[person.name]
            row = person.meetings[:gap] + (meeting.name,) + person.meetings[gap:]
            people.append(person_with(person, row))
        else:
            people.append(person)
    return with_rows(day, least, day.meetings + (meeting,), people, list(gaps))


def check_people_told(day, people):
    """Raise BadName for the first one whom the day does not have or who was given before."""
    for count, person in enumerate(people):
        day.person_named(person)
        if person in people[:count]:
            raise BadName(person)


def check_put(day, ways, meeting, people):
    """Raise an error if the meeting cannot be put into the rows of these people."""
    check_people_told(day, people)
    if meeting.name in day:
        raise BadName(meeting.name)
    for known in (meeting,) + day.meetings:
        check_place(ways.places, known.place)
    for person in day.people:
        check_place(ways.places, person.home)
    check_number("meetings", len(day) + 1, 0, MOST_MEETINGS)


def with_meeting(day, ways, meeting, gaps):
    """The day with the meeting behind so many others in the row of each told person."""
    check_put(day, ways, meeting, list(gaps))
    for person, gap in gaps.items():
        check_number("gap", gap, 0, len(day.person_named(person).meetings))
    return put_behind(day, ways.reach_all(), meeting, gaps)


def gap_rows(day, people):
    """All rows of gaps, ascending; TooMany if there are more than the program goes through."""
    sizes = [len(day.person_named(person).meetings) + 1 for person in people]
    many = 1
    for size in sizes:
        many = many * size
    if many > MOST_GAP_ROWS:
        raise TooMany(MOST_GAP_ROWS)
    rows = [()]
    for size in sizes:
        rows = [row + (gap,) for row in rows for gap in range(size)]
    return rows


def moves_put(day, least, meeting, gaps):
    """The moves of the meeting if it is put in so, None if that cannot be."""
    try:
        made = put_behind(day, least, meeting, gaps)
    except (BadWay, BadRing):
        return None
    return moves(made, meeting.name)


def put_in(day, ways, meeting, *people):
    """All (gaps, first, last) with which the day can be kept."""
    check_put(day, ways, meeting, people)
    rows = gap_rows(day, people)
    least = ways.reach_all()
    found = []
    for gaps in rows:
        bounds = moves_put(day, least, meeting, dict(zip(people, gaps)))
        if bounds is not None:
            found.append((gaps, bounds[0], bounds[1]))
    return found


def without_meeting(day, ways, name):
    """The day without the meeting; the legs behind it are read from the ways."""
    attendees = day.attendees(name)
    meetings = [meeting for meeting in day.meetings if meeting.name != name]
    people = []
    for person in day.people:
        row = [other for other in person.meetings if other != name]
        people.append(person_with(person, row))
    return with_rows(day, ways.reach_all(), meetings, people, attendees)
