"""Maps, ways and days as texts, and read back from them."""

from laterways.day import Day, Meeting, Person
from laterways.errors import BadText
from laterways.rising import Rising
from laterways.ways import Ways
from laterways.words import is_written_number

DIGITS_OF_MAPS = 9
DIGITS_OF_DAYS = 4

# The kinds of lines, in the order in which they come.
KINDS = ("places", "way", "meet", "person")


def read_row(word):
    """The row of a map that the word tells, or None if it has another form."""
    start, _, rest = word.partition(":")
    grows = rest.endswith("+")
    value = rest[:-1] if grows else rest
    if not is_written_number(start, DIGITS_OF_MAPS) or not is_written_number(value, DIGITS_OF_MAPS):
        return None
    return (int(start), int(value), grows)


def read_rows(words):
    """The rows of a map that the words tell, or None if one has another form."""
    rows = [read_row(word) for word in words]
    return None if any([row is None for row in rows]) else rows


def read_rising(text):
    """The map that the text tells."""
    rows = read_rows(text.split(" "))
    if rows is None:
        raise BadText(1)
    return Rising(rows)


def meeting_words(meeting):
    """The words of the meeting's line."""
    numbers = [str(meeting.opens), str(meeting.latest), str(meeting.length)]
    return ["meet", meeting.name, meeting.place] + numbers


def person_words(person):
    """The words of the person's line."""
    return ["person", person.name, person.home, str(person.leaves)] + list(person.meetings)


def write_day(ways, day):
    """The text of the ways and the day."""
    lines = [["places"] + list(ways.places)]
    for start, end in ways.pairs():
        lines.append(["way", start, end, str(ways.told(start, end))])
    for meeting in day.meetings:
        lines.append(meeting_words(meeting))
    for person in day.people:
        lines.append(person_words(person))
    return "".join([" ".join(words) + "\n" for words in lines])


def are_numbers(words):
    """True if each word is a number of a day."""
    return all([is_written_number(word, DIGITS_OF_DAYS) for word in words])


def has_form(words):
    """True if the line has the form of its kind; the first word is one of KINDS."""
    if "" in words:
        return False
    if words[0] == "places":
        return len(words) >= 2
    if words[0] == "way":
        return len(words) >= 4 and read_rows(words[3:]) is not None
    if words[0] == "meet":
        return len(words) == 6 and are_numbers(words[3:])
    return len(words) >= 4 and are_numbers(words[3:4])


def may_follow(kind, before):
    """True if a line of the kind may stand behind one of the kind before, which is None for the first line."""
    if kind not in KINDS:
        return False
    if before is None or kind == "places":
        return before is None and kind == "places"
    return KINDS.index(before) <= KINDS.index(kind)


def read_lines(text):
    """The words of each line; BadText for the first line that is wrong."""
    parts = text.split("\n")
    lines = [part.split(" ") for part in parts[:-1]]
    before = None
    for place, words in enumerate(lines):
        if not may_follow(words[0], before) or not has_form(words):
            raise BadText(place + 1)
        before = words[0]
    if len(lines) == 0 or parts[-1] != "":
        raise BadText(len(lines) + 1)
    return lines


def read_meeting(words):
    """The meeting of the line."""
    opens, latest, length = [int(word) for word in words[3:]]
    return Meeting(words[1], words[2], opens, latest, length)


def read_person(words):
    """The person of the line."""
    row = words[4:]
    return Person(words[1], words[2], int(words[3]), *row)


def read_day(text):
    """The ways and the day that the text tells."""
    lines = read_lines(text)
    places = lines[0][1:]
    ways = Ways(*places)
    meetings = []
    people = []
    for words in lines[1:]:
        if words[0] == "way":
            way = Rising(read_rows(words[3:]))
            ways[words[1], words[2]] = way
        elif words[0] == "meet":
            meetings.append(read_meeting(words))
        else:
            people.append(read_person(words))
    return (ways, Day(ways, meetings, people))
