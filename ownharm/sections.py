"""Sections and boards, and the instructions that the numbers in sections are."""

from ownharm.boardcheck import good_board, good_section
from ownharm.errors import BadBoard, BadEntries, BadInstruction, BadSection
from ownharm.kinds import is_tuple, is_whole
from ownharm.needs import need_number, need_room_number

# For each instruction: its first digit, how many digits it tells, and its last digits, where they are
# not told, in the least number that is this instruction.
FORMS = {
    "stop": (0, 0, 0), "set": (1, 1, 0), "get": (2, 2, 0), "put": (2, 2, 5), "rest": (3, 3, 0),
    "plus": (4, 3, 0), "minus": (5, 3, 0), "times": (6, 3, 0), "less": (7, 3, 0), "jump": (8, 2, 0),
    "ask": (9, 2, 0), "give": (9, 0, 5),
}
# By the first digit: the word if the last digit is below 5, and the word otherwise.
FIRST_WORDS = (
    ("stop", "stop"), ("set", "set"), ("get", "put"), ("rest", "rest"), ("plus", "plus"), ("minus", "minus"),
    ("times", "times"), ("less", "less"), ("jump", "jump"), ("ask", "give"),
)


def is_section(value):
    """Whether any value is a section."""
    return good_section(value)


def is_board(value):
    """Whether any value is a board."""
    return good_board(value)


def need_section(section):
    """BadSection for what is no section."""
    if not good_section(section):
        raise BadSection("the value is no section")


def need_board(board):
    """BadBoard for what is no board."""
    if not good_board(board):
        raise BadBoard("the value is no board")


def board_face(board):
    """The face of a board: its depth, the wires, the counts of the entries."""
    need_board(board)
    return (board[0], board[1], tuple([len(section[1]) for section in board[2]]))


def with_section(board, room, section):
    """The board with another section in the place of that of the room with the number."""
    need_board(board)
    need_room_number(room, len(board[2]))
    need_section(section)
    if len(section[1]) != len(board[2][room][1]):
        raise BadEntries("the section has not as many entries as the room's own")
    sections = [section if at == room else old for at, old in enumerate(board[2])]
    return (board[0], board[1], tuple(sections))


def digits_of(number):
    """The list of the four digits of a number."""
    return [number // 1000, number // 100 % 10, number // 10 % 10, number % 10]


def instruction(number):
    """The instruction that a number is."""
    need_number(number)
    digits = digits_of(number)
    word = FIRST_WORDS[digits[0]][0 if digits[3] < 5 else 1]
    return (word, *digits[1:1 + FORMS[word][1]])


def is_instruction(value):
    """Whether any value is an instruction."""
    if not is_tuple(value, 1, 4) or not isinstance(value[0], str) or value[0] not in FORMS:
        return False
    return len(value) == 1 + FORMS[value[0]][1] and all([is_whole(digit, 0, 9) for digit in value[1:]])


def instruction_number(value):
    """The least number that is this instruction."""
    if not is_instruction(value):
        raise BadInstruction("the value is no instruction")
    first, _, last = FORMS[value[0]]
    digits = list(value[1:]) + [0, 0, 0]
    number = first * 1000 + digits[0] * 100 + digits[1] * 10 + digits[2]
    return number + last
