"""Rooms and programs: what they are, their nodes and places, their names."""

from ownharm.errors import BadNode, BadPlace, BadTable, NoPart, NoRoom
from ownharm.kinds import good_name, is_tuple, is_whole
from ownharm.needs import need_program, need_room
from ownharm.roomcheck import good_program, good_room
from ownharm.syntax import children, depths_in, nodes_in, part_called, parts_of, with_body, with_children, with_node_at


def is_name(value):
    """Whether any value is a name."""
    return good_name(value)


def is_room(value):
    """Whether any value is a room."""
    return good_room(value)


def is_program(value):
    """Whether any value is a program."""
    return good_program(value)


def part_names(source):
    """The tuple of the names of the functions, then of the doors."""
    need_room(source)
    return tuple([part[0] for part in parts_of(source)])


def need_part(source, name):
    """NoPart for what is no name of a part of the room; the part."""
    part = part_called(source, name)
    if part is None:
        raise NoPart(name)
    return part


def nodes(source, part):
    """The list of the nodes of a part, in reading order."""
    need_room(source)
    return nodes_in(need_part(source, part)[-1])


def need_place(source, place):
    """BadPlace for what is no place of a node of the room; the body of the part that has it."""
    if is_tuple(place, 2, 2):
        part = part_called(source, place[0])
        if part is not None and is_whole(place[1], 0, len(nodes_in(part[-1])) - 1):
            return part[-1]
    raise BadPlace("the value is no place of a node of the room")


def node_at(source, place):
    """The node at a place."""
    need_room(source)
    body = need_place(source, place)
    return nodes_in(body)[place[1]]


def need_new_room(value):
    """BadNode for what is no room; the room."""
    if not good_room(value):
        raise BadNode("with this in it the value is no room")
    return value


def with_node(source, place, node):
    """The room with another node in the place of the one there."""
    need_room(source)
    body = need_place(source, place)
    new_body = tuple(with_node_at(body, place[1], node))
    return need_new_room(with_body(source, place[0], new_body))


def depth_of(source, place):
    """The depth of the node at a place: 1 for a statement of the body of the part."""
    need_room(source)
    body = need_place(source, place)
    return depths_in(body, 1)[place[1]]


def door_numbers(program):
    """The dict from the pairs of names (room, door) of a program to the pairs of their numbers."""
    numbers = {}
    for room, source in enumerate(program[1]):
        for door, told in enumerate(source[4]):
            numbers[(source[0], told[0])] = (room, door)
    return numbers


def room_wires(program, source):
    """The tuple of the pairs (room, door) of a room's imports, by their numbers."""
    numbers = door_numbers(program)
    return tuple([numbers[pair] for pair in source[1]])


def all_wires(program):
    """The tuple of the wires of all rooms."""
    numbers = door_numbers(program)
    return tuple([tuple([numbers[pair] for pair in source[1]]) for source in program[1]])


def face_in(program):
    """The face of a good program."""
    return (program[0], all_wires(program), tuple([len(source[4]) for source in program[1]]))


def face_of(program):
    """The face of a program: its depth, the wires of the rooms, the counts of their doors."""
    need_program(program)
    return face_in(program)


def number_of(program, name):
    """The number of the room with this name."""
    need_program(program)
    if isinstance(name, str):
        for room, source in enumerate(program[1]):
            if source[0] == name:
                return room
    raise NoRoom(name)


def need_table(table):
    """BadTable for what is no dict from names to names."""
    if not isinstance(table, dict):
        raise BadTable("the value is no dict")
    if not all([good_name(name) and good_name(worth) for name, worth in table.items()]):
        raise BadTable("the dict has a key or a value that is no name")


def asks_renamed(node, table):
    """The node with the names of the rooms in its asks exchanged as the table tells."""
    new = with_children(node, [asks_renamed(inner, table) for inner in children(node)])
    if new[0] == "ask":
        return ("ask", table.get(new[1], new[1]), new[2], new[3])
    return new


def room_renamed(source, table):
    """The room with other names of rooms: its own, those in imports and in asks."""
    need_room(source)
    need_table(table)
    new = source
    for part in parts_of(source):
        new = with_body(new, part[0], tuple([asks_renamed(node, table) for node in part[-1]]))
    imports = tuple([(table.get(room, room), door) for room, door in source[1]])
    return need_new_room((table.get(source[0], source[0]), imports, new[2], new[3], new[4]))


def run_names(source, part):
    """A dict of the names of the functions that running the part may run, through others too."""
    found = {}
    for node in nodes_in(part[-1]):
        if node[0] == "run" and node[1] not in found:
            found[node[1]] = True
            for name in run_names(source, part_called(source, node[1])):
                found[name] = True
    return found


def runs_of(source, part):
    """The ascending tuple of the names of the functions that running the part may run."""
    need_room(source)
    return tuple(sorted(run_names(source, need_part(source, part))))


def asks_of(source, part):
    """The ascending tuple of the pairs (room, door) that running the part may ask."""
    need_room(source)
    told = need_part(source, part)
    bodies = [told[-1]] + [part_called(source, name)[-1] for name in run_names(source, told)]
    asked = {(node[1], node[2]): True for body in bodies for node in nodes_in(body) if node[0] == "ask"}
    return tuple(sorted(asked))
