"""What single values are: wholes, numbers, names, tuples of a length."""

MODULUS = 10000
MOST_OPEN = 60
MOST_ROOMS = 6
MOST_IMPORTS = 8
MOST_DOORS = 6
# The act with which a room ends the run.
ENDS = ("ends",)
# The words of the texts, which are no names.
WORDS = {
    "block": True, "depth": True, "door": True, "else": True, "function": True, "give": True, "if": True, "rest": True,
    "room": True, "stop": True, "uses": True, "while": True,
}


def is_whole(value, low, high):
    """Whether the value is a whole from low to high; True and False are none."""
    return isinstance(value, int) and not isinstance(value, bool) and low <= value <= high


def is_number(value):
    """Whether the value is a number, as the rooms know them."""
    return isinstance(value, int) and not isinstance(value, bool) and 0 <= value < MODULUS


def are_numbers(values):
    """Whether all items of a list or tuple are numbers."""
    for one in values:
        if not isinstance(one, int) or one is True or one is False or not 0 <= one < MODULUS:
            return False
    return True


def is_tuple(value, least, most):
    """Whether the value is a tuple of at least and at most so many items."""
    return isinstance(value, tuple) and least <= len(value) <= most


def are_digits(text):
    """Whether the text is made of digits 0 to 9 alone, one at least."""
    return text.isascii() and text.isdigit()


def is_written_whole(text):
    """Whether the text is a whole from 0 on as Python writes it."""
    return are_digits(text) and (len(text) == 1 or text[0] != "0")


def good_name(value):
    """Whether the value is a name."""
    if not isinstance(value, str) or not 1 <= len(value) <= 8 or value in WORDS:
        return False
    # Of the letters and digits of ASCII, a string that is lower and begins with a letter has no great ones.
    return value.isascii() and value.isalnum() and value.islower() and value[0].isalpha()


def all_unlike(things):
    """Whether no two of the strings, wholes or tuples of such are equal."""
    return len(things) < 2 or len(set(things)) == len(things)
