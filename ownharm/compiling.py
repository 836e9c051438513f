"""Rooms compiled: each one by itself into its own section of the machine."""

from ownharm.boardcheck import MOST_CELLS
from ownharm.errors import TooLarge
from ownharm.needs import need_program, need_room_number
from ownharm.roomlayer import laid_room
from ownharm.rooms import room_wires


def laid_with(source, wires, depth, room):
    """The cells laid for a good room with these wires and this number in a program of this depth; TooLarge."""
    code = laid_room(source, wires, depth)
    if len(code.numbers) > MOST_CELLS:
        raise TooLarge(room)
    return code


def section_with(source, wires, depth, room):
    """The section of the same room; TooLarge."""
    code = laid_with(source, wires, depth, room)
    return (tuple(code.numbers), tuple([code.entries[door[0]] for door in source[4]]))


def laid_section(program, room):
    """BadProgram, BadRoomNumber, TooLarge; the cells laid for the room of the program with the number."""
    need_program(program)
    need_room_number(room, len(program[1]))
    source = program[1][room]
    return laid_with(source, room_wires(program, source), program[0], room)


def layout(program, room):
    """The dict from the names of the blocks of the room to the addresses of their first cells."""
    code = laid_section(program, room)
    return {block[0]: code.labels[block[0]] for block in program[1][room][2]}


def compiled(program, room):
    """The section of the room."""
    need_program(program)
    need_room_number(room, len(program[1]))
    source = program[1][room]
    return section_with(source, room_wires(program, source), program[0], room)


def places_of(program, room):
    """The list of the places whose steps the cells of the room's section do, None for those that do none."""
    return laid_section(program, room).places()
