"""Rooms made from trees: they do what the tree tells, and never an undefined step."""

from ownharm.errors import BadRow, BadTree, TooMany
from ownharm.needs import need_program, need_room_number
from ownharm.rooms import all_wires, face_in, room_wires
from ownharm.rows import fits_in, need_row, views_in
from ownharm.treerooms import room_doing
from ownharm.viewtrees import least_behind, need_tree, tree_behind

MOST_NODES = 400


def can_do(acts, events, wires, doors):
    """Whether a room with these wires and so many doors can do all these acts and meet all these events."""
    for act in acts:
        # Of four items are the asks alone, of three the events "in".
        if len(act) == 4 and act[1:3] not in wires:
            return False
    for event in events:
        if len(event) == 3 and event[1] >= doors:
            return False
    return True


def small_least(tree, forward):
    """The least tree as least_behind has it; TooMany if no room is made from it."""
    least = least_behind(tree, forward)
    if len(least) > MOST_NODES or sum([len(children) for _, children in least]) > MOST_NODES:
        raise TooMany(MOST_NODES)
    return least


def room_showing(source, wires, view):
    """The room in the place of another one that is made from the tree of a good view; TooMany."""
    return room_doing(source, wires, small_least(tree_behind([view]), True))


def made(program, room, tree):
    """A room that can stand in the place of the room of the program and does what the tree tells."""
    need_program(program)
    need_room_number(room, len(program[1]))
    acts, events, _, forward = need_tree(tree)
    source = program[1][room]
    wires = room_wires(program, source)
    if not can_do(acts, events, wires, len(source[4])):
        raise BadTree("the tree has an act or an event that the room cannot have")
    return room_doing(source, wires, small_least(tree, forward))


def need_fitting_row(program, row):
    """BadProgram, BadRow for what is no row that fits the face of the program."""
    need_program(program)
    need_row(row)
    if not fits_in(row, face_in(program)):
        raise BadRow("the row does not fit the program")


def with_made(program, row, rooms):
    """The good program in which each of these rooms is made from the tree of its own view of the row, which fits."""
    sources = list(program[1])
    wires = all_wires(program)
    views = views_in(row)
    for room in rooms:
        sources[room] = room_showing(sources[room], wires[room], views[room])
    return (program[0], tuple(sources))


def made_all(program, row):
    """The program in which every room is made from the tree of its view of the row."""
    need_fitting_row(program, row)
    return with_made(program, row, list(range(len(program[1]))))
