"""Rooms made from trees: they do what the tree tells, and never an undefined step."""

from ownharm.errors import BadRow, BadTree, TooMany
from ownharm.needs import need_program, need_room_number
from ownharm.rooms import face_of, room_wires
from ownharm.rows import fits, view_of
from ownharm.treerooms import room_doing
from ownharm.viewtrees import least_tree, need_tree, tree_of

MOST_NODES = 400


def can_do(tree, wires, doors):
    """Whether a room with these wires and so many doors can do what the tree tells."""
    for act, children in tree:
        if act is not None and act[0] == "calls" and (act[1], act[2]) not in wires:
            return False
        if any([event[0] == "in" and event[1] >= doors for event, _ in children]):
            return False
    return True


def made(program, room, tree):
    """A room that can stand in the place of the room of the program and does what the tree tells."""
    need_program(program)
    need_room_number(room, len(program[1]))
    need_tree(tree)
    source = program[1][room]
    wires = room_wires(program, source)
    if not can_do(tree, wires, len(source[4])):
        raise BadTree("the tree has an act or an event that the room cannot have")
    least = least_tree(tree)
    if len(least) > MOST_NODES or sum([len(children) for _, children in least]) > MOST_NODES:
        raise TooMany(MOST_NODES)
    return room_doing(source, wires, least)


def need_fitting_row(program, row):
    """BadProgram, BadRow for what is no row that fits the face of the program."""
    # What is no row at all is told by fits.
    if not fits(row, face_of(program)):
        raise BadRow("the row does not fit the program")


def with_made(program, row, rooms):
    """The program in which each of these rooms is made from the tree of its own view of the row."""
    sources = list(program[1])
    for room in rooms:
        sources[room] = made(program, room, tree_of([view_of(row, room)]))
    return (program[0], tuple(sources))


def made_all(program, row):
    """The program in which every room is made from the tree of its view of the row."""
    need_fitting_row(program, row)
    return with_made(program, row, list(range(len(program[1]))))
