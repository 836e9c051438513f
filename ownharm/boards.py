"""The boards of programs: rooms compiled, and foreign sections in the places of others."""

from ownharm.boardcheck import good_section
from ownharm.compiling import compiled
from ownharm.errors import BadSections
from ownharm.kinds import is_whole
from ownharm.rooms import face_of


def is_foreign(program, room, section):
    """Whether any two values are the number of a room of the program and a section that can stand for it."""
    if not is_whole(room, 0, len(program[1]) - 1) or not good_section(section):
        return False
    return len(section[1]) == len(program[1][room][4])


def need_sections(program, foreign):
    """BadSections for what is no dict of foreign sections for rooms of the program."""
    if not isinstance(foreign, dict):
        raise BadSections("the value is no dict")
    if not all([is_foreign(program, room, section) for room, section in foreign.items()]):
        raise BadSections("the dict has a key that is no room or a value that is no section for it")


def board_of(program, foreign=None):
    """The board of a program, with the foreign sections of a dict in the places of some rooms."""
    depth, wires, _ = face_of(program)
    known = {}
    if foreign is not None:
        need_sections(program, foreign)
        known = foreign
    sections = [known[room] if room in known else compiled(program, room) for room in range(len(wires))]
    return (depth, wires, tuple(sections))
