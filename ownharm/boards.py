"""The boards of programs: rooms compiled, and foreign sections in the places of others."""

from ownharm.boardcheck import good_section
from ownharm.compiling import section_with
from ownharm.errors import BadSections
from ownharm.kinds import is_whole
from ownharm.needs import need_program
from ownharm.rooms import all_wires


def is_foreign(program, room, section):
    """Whether any two values are the number of a room of the program and a section that can stand for it."""
    if not is_whole(room, 0, len(program[1]) - 1) or not good_section(section):
        return False
    return len(section[1]) == len(program[1][room][4])


def need_sections(program, foreign):
    """BadSections for what is no dict of foreign sections for rooms of the program."""
    if not isinstance(foreign, dict):
        raise BadSections("the value is no dict")
    if not all([is_foreign(program, room, section) for room, section in foreign.items()]):
        raise BadSections("the dict has a key that is no room or a value that is no section for it")


def board_in(program, foreign):
    """The board of a good program with the good foreign sections of a dict in the places of some rooms; TooLarge."""
    wires = all_wires(program)
    sections = []
    for room, source in enumerate(program[1]):
        if room in foreign:
            sections.append(foreign[room])
        else:
            sections.append(section_with(source, wires[room], program[0], room))
    return (program[0], wires, tuple(sections))


def board_of(program, foreign=None):
    """The board of a program, with the foreign sections of a dict in the places of some rooms."""
    need_program(program)
    if foreign is None:
        return board_in(program, {})
    need_sections(program, foreign)
    return board_in(program, foreign)
