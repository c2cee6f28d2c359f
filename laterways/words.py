"""Names and numbers: which ones are allowed, and the errors for the others."""

from laterways.errors import BadName, BadNumber

LETTERS = "abcdefghijklmnopqrstuvwxyz"
DIGITS = "0123456789"


def is_name(text):
    """True if the value is a string of 1 to 8 letters from a to z."""
    if not isinstance(text, str):
        return False
    return 1 <= len(text) <= 8 and all([letter in LETTERS for letter in text])


def check_name(text):
    """The name itself; BadName for every other value."""
    if not is_name(text):
        raise BadName(text)
    return text


def check_new_name(text, known):
    """The name itself if it is none of the known ones."""
    if not is_name(text) or text in known:
        raise BadName(text)
    return text


def is_integer(value):
    """True for integers; True and False are none."""
    return isinstance(value, int) and not isinstance(value, bool)


def check_integer(what, value):
    """The integer itself; BadNumber for every other value."""
    if not is_integer(value):
        raise BadNumber(what, value)
    return value


def check_number(what, value, low, high):
    """The integer itself if it is from low to high; high may be None."""
    check_integer(what, value)
    if value < low or (high is not None and value > high):
        raise BadNumber(what, value)
    return value


def is_written_number(text, most):
    """True for one to most digits without a leading zero (except "0")."""
    if not isinstance(text, str) or not 1 <= len(text) <= most:
        return False
    if not all([digit in DIGITS for digit in text]):
        return False
    return text == "0" or text[0] != "0"


def read_number(text):
    """The number that is written with one to four digits."""
    if not is_written_number(text, 4):
        raise BadNumber("number", text)
    return int(text)


# min and max would compare any objects, also maps, which have no order in a
# row; these two are for numbers alone.


def lesser(first, second):
    """The lesser one of two numbers."""
    return first if first <= second else second


def greater(first, second):
    """The greater one of two numbers."""
    return first if first >= second else second
