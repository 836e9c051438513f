"""Judges any value: whether it is a room, whether it is a program."""

from ownharm.kinds import (MOST_DOORS, MOST_IMPORTS, MOST_OPEN, MOST_ROOMS, all_unlike, good_name, is_number,
                           is_tuple, is_whole)
from ownharm.syntax import OPERATORS

MOST_NODES = 200
MOST_DEPTH = 12
MOST_BLOCKS = 6
MOST_VALUES = 400
MOST_FUNCTIONS = 6
MOST_PARAMS = 4
MOST_SIZE = 10000


class BodyCheck:
    """Judges the bodies of the parts of one room, whatever stands in them."""

    def __init__(self, imports, blocks):
        self.imports = imports
        self.blocks = blocks
        self.params = {}
        self.many = 0

    def allow(self, function):
        """From now on this function may be run, with as many arguments as it has params."""
        self.params[function[0]] = len(function[1])

    def is_part_body(self, body):
        """Whether the value is the body of a part."""
        self.many = 0
        return self.is_body(body, 1)

    def is_body(self, body, depth):
        """Whether the value is a body with statements at this depth."""
        if not isinstance(body, tuple):
            return False
        for statement in body:
            if not self.is_statement(statement, depth):
                return False
        return True

    def is_node(self, value, depth):
        """Counts one node more; whether it may be there and is a tuple with something in it."""
        self.many += 1
        # The bounds come first: they also end the way through values that are too deep or too long.
        if self.many > MOST_NODES or depth > MOST_DEPTH:
            return False
        return is_tuple(value, 1, 4)

    def is_statement(self, value, depth):
        """Whether the value is a statement at this depth."""
        if not self.is_node(value, depth):
            return False
        word = value[0]
        if word == "let":
            return len(value) == 3 and good_name(value[1]) and self.is_value(value[2], depth + 1)
        if word == "store":
            return len(value) == 4 and self.has_block(value[1]) and self.are_values(value[2:], depth + 1)
        if word == "if":
            return (len(value) == 4 and self.is_value(value[1], depth + 1)
                    and self.is_body(value[2], depth + 1) and self.is_body(value[3], depth + 1))
        if word == "while":
            return len(value) == 3 and self.is_value(value[1], depth + 1) and self.is_body(value[2], depth + 1)
        if word == "give":
            return len(value) == 2 and self.is_value(value[1], depth + 1)
        return word == "stop" and len(value) == 1

    def is_value(self, value, depth):
        """Whether the value is an expression at this depth."""
        if not self.is_node(value, depth):
            return False
        word = value[0]
        if word == "number":
            return len(value) == 2 and is_number(value[1])
        if word == "local":
            return len(value) == 2 and good_name(value[1])
        if word == "cell":
            return len(value) == 3 and self.has_block(value[1]) and self.is_value(value[2], depth + 1)
        if word == "run":
            return len(value) == 3 and self.are_arguments(value[1], value[2], depth + 1)
        if word == "ask":
            return len(value) == 4 and self.has_import(value[1], value[2]) and self.is_value(value[3], depth + 1)
        return word in OPERATORS and len(value) == 3 and self.are_values(value[1:], depth + 1)

    def are_values(self, things, depth):
        """Whether all the things are expressions at this depth."""
        for value in things:
            if not self.is_value(value, depth):
                return False
        return True

    def are_arguments(self, function, arguments, depth):
        """Whether the function may be run with these arguments."""
        if not isinstance(function, str) or function not in self.params:
            return False
        many = self.params[function]
        return is_tuple(arguments, many, many) and self.are_values(arguments, depth)

    def has_block(self, value):
        """Whether the value names a block of the room."""
        return value in self.blocks

    def has_import(self, room, door):
        """Whether the room imports this door."""
        return (room, door) in self.imports


def are_imports(value, own):
    """Whether the value is the tuple of the imports of the room with this name."""
    if not is_tuple(value, 0, MOST_IMPORTS):
        return False
    for pair in value:
        if not is_tuple(pair, 2, 2) or not good_name(pair[0]) or not good_name(pair[1]) or pair[0] == own:
            return False
    return all_unlike(value)


def is_block(value):
    """Whether the value is a block."""
    if not is_tuple(value, 2, 2) or not good_name(value[0]) or not is_tuple(value[1], 1, MOST_VALUES):
        return False
    return all([one is None or is_number(one) for one in value[1]])


def are_blocks(value):
    """Whether the value is the tuple of the blocks of a room."""
    if not is_tuple(value, 0, MOST_BLOCKS) or not all([is_block(block) for block in value]):
        return False
    return all_unlike([block[0] for block in value])


def is_function_head(value):
    """Whether the value is a function but for its body, which is not looked at."""
    if not is_tuple(value, 3, 3) or not good_name(value[0]) or not is_tuple(value[1], 0, MOST_PARAMS):
        return False
    return all([good_name(param) for param in value[1]]) and all_unlike(value[1])


def is_door_head(value):
    """Whether the value is a door but for its body, which is not looked at."""
    return is_tuple(value, 4, 4) and good_name(value[0]) and good_name(value[1]) and is_whole(value[2], 1, MOST_SIZE)


def are_heads(functions, doors):
    """Whether the values are the functions and the doors of a room but for their bodies."""
    if not is_tuple(functions, 0, MOST_FUNCTIONS) or not is_tuple(doors, 1, MOST_DOORS):
        return False
    if not all([is_function_head(function) for function in functions]):
        return False
    if not all([is_door_head(door) for door in doors]):
        return False
    return all_unlike([part[0] for part in functions + doors])


def good_room(value):
    """Whether the value is a room."""
    if not is_tuple(value, 5, 5) or not good_name(value[0]):
        return False
    name, imports, blocks, functions, doors = value
    if not are_imports(imports, name) or not are_blocks(blocks) or not are_heads(functions, doors):
        return False
    check = BodyCheck(imports, [block[0] for block in blocks])
    for function in functions:
        if not check.is_part_body(function[2]):
            return False
        # Only now: a function runs those ahead of it, not itself.
        check.allow(function)
    return all([check.is_part_body(door[3]) for door in doors])


def doors_of(rooms):
    """A dict of the pairs (room name, door name) that some rooms have."""
    return {(room[0], door[0]): True for room in rooms for door in room[4]}


def good_program(value):
    """Whether the value is a program."""
    if not is_tuple(value, 2, 2) or not is_whole(value[0], 1, MOST_OPEN) or not is_tuple(value[1], 1, MOST_ROOMS):
        return False
    rooms = value[1]
    if not all([good_room(room) for room in rooms]) or not all_unlike([room[0] for room in rooms]):
        return False
    doors = doors_of(rooms)
    return all([pair in doors for room in rooms for pair in room[1]])
