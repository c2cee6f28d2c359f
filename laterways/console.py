"""Commands, a line each, on a calendar; each one gets an answer."""

from laterways.calendar import Calendar
from laterways.chains import chain
from laterways.day import check_known
from laterways.earliest import earliest, late
from laterways.errors import BadName, BadNumber, BadRing, BadWay, NothingToUndo, NotKept
from laterways.moves import moves
from laterways.slack import slack_of_all
from laterways.words import is_written_number, read_number

DIGITS = 4

# What stands behind the first word: w for a word, n for a number.
FORMS = {
    "when": "w", "moves": "w", "late": "", "why": "w", "slack": "", "move": "wn", "leave": "wn",
    "delay": "wwn", "drop": "w", "undo": "", "table": "",
}


def when_answer(calendar, name):
    """The earliest start of the meeting."""
    check_known(calendar.day, name)
    return str(earliest(calendar.day)[name])


def moves_answer(calendar, name):
    """The minutes to which the meeting can be moved."""
    found = moves(calendar.day, name)
    return "none" if found is None else f"{found[0]} to {found[1]}"


def late_answer(calendar):
    """The names of the late meetings."""
    names = late(calendar.day)
    return "none" if len(names) == 0 else " ".join(names)


def why_answer(calendar, name):
    """The chain of the meeting."""
    return " ".join([",".join(row) for row in chain(calendar.day, name)])


def slack_answer(calendar):
    """How much longer all legs may be."""
    try:
        found = slack_of_all(calendar.day)
    except NotKept:
        return "not kept"
    return "none" if found is None else str(found)


def table_row(meeting, start):
    """The meeting and its start in columns."""
    star = "*" if start > meeting.latest else ""
    return f"{meeting.name:<9}{start:>5}{star}"


def table_answer(calendar):
    """A line for each meeting."""
    starts = earliest(calendar.day)
    return "\n".join([table_row(meeting, starts[meeting.name]) for meeting in calendar.day.meetings])


def move_answer(calendar, name, minute):
    """Move the meeting."""
    calendar.move(name, read_number(minute))
    return "done"


def leave_answer(calendar, person, minute):
    """Let the person leave at another minute."""
    calendar.leave(person, read_number(minute))
    return "done"


def delay_answer(calendar, person, name, minutes):
    """Make the leg longer."""
    calendar.delay(person, name, read_number(minutes))
    return "done"


def drop_answer(calendar, name):
    """Take the meeting out."""
    calendar.drop(name)
    return "done"


def undo_answer(calendar):
    """Take the last change back."""
    calendar.undo()
    return "done"


ANSWERS = {
    "when": when_answer, "moves": moves_answer, "late": late_answer, "why": why_answer, "slack": slack_answer,
    "move": move_answer, "leave": leave_answer, "delay": delay_answer, "drop": drop_answer, "undo": undo_answer,
    "table": table_answer,
}


def has_form(form, words):
    """True if the words behind the first one are those of the form."""
    if len(words) != len(form) or "" in words:
        return False
    return all([sign == "w" or is_written_number(word, DIGITS) for sign, word in zip(form, words)])


def answer(calendar, line):
    """The answer to the line."""
    words = line.split(" ")
    if words[0] not in FORMS:
        return "unknown"
    rest = words[1:]
    if not has_form(FORMS[words[0]], rest):
        return "form"
    action = ANSWERS[words[0]]
    try:
        return action(calendar, *rest)
    except BadName:
        return "name"
    except BadNumber:
        return "number"
    except BadWay:
        return "way"
    except BadRing:
        return "ring"
    except NothingToUndo:
        return "nothing"


def console(ways, day, lines):
    """The answers to all lines, which work on a calendar of the ways and the day."""
    calendar = Calendar(ways, day)
    return [answer(calendar, line) for line in lines]
