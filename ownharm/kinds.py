"""What single values are: wholes, numbers, names, tuples of a length."""

MODULUS = 10000
MOST_OPEN = 60
MOST_ROOMS = 6
MOST_IMPORTS = 8
MOST_DOORS = 6
# The act with which a room ends the run.
ENDS = ("ends",)
WORDS = ("block", "depth", "door", "else", "function", "give", "if", "rest", "room", "stop", "uses", "while")


def is_whole(value, low, high):
    """Whether the value is a whole from low to high; True and False are none."""
    return isinstance(value, int) and not isinstance(value, bool) and low <= value <= high


def is_number(value):
    """Whether the value is a number, as the rooms know them."""
    return is_whole(value, 0, MODULUS - 1)


def is_tuple(value, least, most):
    """Whether the value is a tuple of at least and at most so many items."""
    return isinstance(value, tuple) and least <= len(value) <= most


def is_small_letter(sign):
    """Whether the one sign is a letter a to z."""
    return "a" <= sign <= "z"


def is_digit(sign):
    """Whether the one sign is a digit 0 to 9."""
    return "0" <= sign <= "9"


def are_digits(text):
    """Whether the text is made of digits 0 to 9 alone, one at least."""
    return len(text) > 0 and all([is_digit(sign) for sign in text])


def is_written_whole(text):
    """Whether the text is a whole from 0 on as Python writes it."""
    return are_digits(text) and (len(text) == 1 or text[0] != "0")


def good_name(value):
    """Whether the value is a name."""
    if not isinstance(value, str) or not 1 <= len(value) <= 8 or value in WORDS:
        return False
    if not is_small_letter(value[0]):
        return False
    return all([is_small_letter(sign) or is_digit(sign) for sign in value])


def all_unlike(things):
    """Whether no two of the strings, wholes or tuples of such are equal."""
    return len(set(things)) == len(things)
