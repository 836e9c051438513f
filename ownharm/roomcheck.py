"""Judges any value: whether it is a room, whether it is a program."""

from ownharm.kinds import (MOST_DOORS, MOST_IMPORTS, MOST_OPEN, MOST_ROOMS, MODULUS, all_unlike, are_numbers,
                           good_name, is_tuple, is_whole)
from ownharm.syntax import OPERATORS

MOST_NODES = 200
MOST_DEPTH = 12
MOST_BLOCKS = 6
MOST_VALUES = 400
MOST_FUNCTIONS = 6
MOST_PARAMS = 4
MOST_SIZE = 10000


# How many nodes more may come where one has come that cannot stand: whatever comes behind it, it stays below 0.
FAILED = -1


def is_known_name(value, names):
    """Whether the value is a name; the dict is of those that have been found to be names, and takes it."""
    if not isinstance(value, str):
        return False
    if value not in names:
        if not good_name(value):
            return False
        names[value] = True
    return True


class BodyCheck:
    """Judges the bodies of the parts of one room, whatever stands in them; names is a dict as is_known_name has it."""

    def __init__(self, imports, blocks, names):
        self.imports = {pair: True for pair in imports}
        self.blocks = {block[0]: True for block in blocks}
        self.names = names
        self.params = {}

    def allow(self, function):
        """From now on this function may be run, with as many arguments as it has params."""
        self.params[function[0]] = len(function[1])

    def is_part_body(self, body):
        """Whether the value is the body of a part."""
        return self.left_behind(body, MOST_NODES, 1) >= 0

    def left_behind(self, body, left, depth):
        """How many nodes more may come behind a body with statements at this depth, so many ahead of it; below 0 if
        they are too many, or the value is no body."""
        if not isinstance(body, tuple) or (depth > MOST_DEPTH and body):
            return FAILED
        names = self.names
        inner = depth + 1
        for value in body:
            many = len(value) if isinstance(value, tuple) else 0
            # The bounds also end the way through values that are too deep or too long.
            if many == 0 or left <= 0:
                return FAILED
            word = value[0]
            if word == "let" and many == 3:
                if not isinstance(value[1], str) or (value[1] not in names and not is_known_name(value[1], names)):
                    return FAILED
                left = self.left_value(value[2], left - 1, inner)
            elif word == "store" and many == 4 and self.has_block(value[1]):
                left = self.left_value(value[3], self.left_value(value[2], left - 1, inner), inner)
            elif word == "give" and many == 2:
                left = self.left_value(value[1], left - 1, inner)
            elif word == "if" and many == 4:
                left = self.left_value(value[1], left - 1, inner)
                left = self.left_behind(value[3], self.left_behind(value[2], left, inner), inner)
            elif word == "while" and many == 3:
                left = self.left_behind(value[2], self.left_value(value[1], left - 1, inner), inner)
            elif word == "stop" and many == 1:
                left -= 1
            else:
                return FAILED
        return left

    def left_value(self, value, left, depth):
        """The same for an expression at this depth."""
        many = len(value) if isinstance(value, tuple) else 0
        if depth > MOST_DEPTH:
            return FAILED
        if many == 2:
            word, told = value
            if word == "number":
                if isinstance(told, int) and told is not True and told is not False and 0 <= told < MODULUS:
                    return left - 1
            elif word == "local" and isinstance(told, str) and (told in self.names or is_known_name(told, self.names)):
                return left - 1
        elif left <= 0:
            return FAILED
        elif many == 3:
            word, one, other = value
            if word in OPERATORS:
                return self.left_value(other, self.left_value(one, left - 1, depth + 1), depth + 1)
            if word == "cell" and self.has_block(one):
                return self.left_value(other, left - 1, depth + 1)
            if word == "run" and self.has_params(one, other):
                left -= 1
                for argument in other:
                    left = self.left_value(argument, left, depth + 1)
                return left
        elif many == 4 and value[0] == "ask" and self.has_import(value[1], value[2]):
            return self.left_value(value[3], left - 1, depth + 1)
        return FAILED

    def has_block(self, value):
        """Whether the value names a block of the room."""
        return isinstance(value, str) and value in self.blocks

    def has_params(self, function, arguments):
        """Whether the function may be run, and there are as many arguments, whatever they are."""
        if not isinstance(function, str) or function not in self.params:
            return False
        return isinstance(arguments, tuple) and len(arguments) == self.params[function]

    def has_import(self, room, door):
        """Whether the room imports this door."""
        return isinstance(room, str) and isinstance(door, str) and (room, door) in self.imports


def are_imports(value, own, names):
    """Whether the value is the tuple of the imports of the room with this name."""
    if not is_tuple(value, 0, MOST_IMPORTS):
        return False
    for pair in value:
        if not isinstance(pair, tuple) or len(pair) != 2 or pair[0] == own:
            return False
        if not is_known_name(pair[0], names) or not is_known_name(pair[1], names):
            return False
    return all_unlike(value)


def is_block(value, names):
    """Whether the value is a block."""
    if not isinstance(value, tuple) or len(value) != 2 or not is_known_name(value[0], names):
        return False
    if not isinstance(value[1], tuple) or not 1 <= len(value[1]) <= MOST_VALUES:
        return False
    return are_numbers([one for one in value[1] if one is not None])


def are_blocks(value, names):
    """Whether the value is the tuple of the blocks of a room."""
    if not is_tuple(value, 0, MOST_BLOCKS):
        return False
    for block in value:
        if not is_block(block, names):
            return False
    return all_unlike([block[0] for block in value])


def is_function_head(value, names):
    """Whether the value is a function but for its body, which is not looked at."""
    if not isinstance(value, tuple) or len(value) != 3 or not is_known_name(value[0], names):
        return False
    if not isinstance(value[1], tuple) or len(value[1]) > MOST_PARAMS:
        return False
    for param in value[1]:
        if not is_known_name(param, names):
            return False
    return all_unlike(value[1])


def is_door_head(value, names):
    """Whether the value is a door but for its body, which is not looked at."""
    if not isinstance(value, tuple) or len(value) != 4:
        return False
    if not is_known_name(value[0], names) or not is_known_name(value[1], names):
        return False
    return is_whole(value[2], 1, MOST_SIZE)


def are_heads(functions, doors, names):
    """Whether the values are the functions and the doors of a room but for their bodies."""
    if not is_tuple(functions, 0, MOST_FUNCTIONS) or not is_tuple(doors, 1, MOST_DOORS):
        return False
    for function in functions:
        if not is_function_head(function, names):
            return False
    for door in doors:
        if not is_door_head(door, names):
            return False
    return all_unlike([part[0] for part in functions + doors])


def is_room_with(value, names):
    """Whether the value is a room; the dict is one as is_known_name has it."""
    if not is_tuple(value, 5, 5) or not is_known_name(value[0], names):
        return False
    name, imports, blocks, functions, doors = value
    if not are_imports(imports, name, names) or not are_blocks(blocks, names) or not are_heads(functions, doors, names):
        return False
    check = BodyCheck(imports, blocks, names)
    for function in functions:
        if not check.is_part_body(function[2]):
            return False
        # Only now: a function runs those ahead of it, not itself.
        check.allow(function)
    for door in doors:
        if not check.is_part_body(door[3]):
            return False
    return True


def good_room(value):
    """Whether the value is a room."""
    return is_room_with(value, {})


def doors_of(rooms):
    """A dict of the pairs (room name, door name) that some rooms have."""
    return {(room[0], door[0]): True for room in rooms for door in room[4]}


def are_joined(rooms):
    """Whether good rooms have unlike names and import doors of one another alone."""
    if not all_unlike([room[0] for room in rooms]):
        return False
    doors = doors_of(rooms)
    return all([pair in doors for room in rooms for pair in room[1]])


def good_program(value):
    """Whether the value is a program."""
    if not is_tuple(value, 2, 2) or not is_whole(value[0], 1, MOST_OPEN) or not is_tuple(value[1], 1, MOST_ROOMS):
        return False
    names = {}
    for room in value[1]:
        if not is_room_with(room, names):
            return False
    return are_joined(value[1])
