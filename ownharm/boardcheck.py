"""Judges any value: whether it is a section, whether it is a board."""

from ownharm.kinds import MOST_DOORS, MOST_IMPORTS, MOST_OPEN, MOST_ROOMS, all_unlike, are_numbers, is_tuple, is_whole

MOST_CELLS = 4000


def good_section(value):
    """Whether the value is a section."""
    if not is_tuple(value, 2, 2) or not is_tuple(value[0], 1, MOST_CELLS) or not is_tuple(value[1], 1, MOST_DOORS):
        return False
    return are_numbers(value[0]) and are_numbers(value[1])


def are_wires(value, own, doors):
    """Whether the value is the tuple of the wires of the room with this number; doors are the counts of all."""
    if not is_tuple(value, 0, MOST_IMPORTS):
        return False
    for pair in value:
        if not is_tuple(pair, 2, 2) or not is_whole(pair[0], 0, len(doors) - 1) or pair[0] == own:
            return False
        if not is_whole(pair[1], 0, doors[pair[0]] - 1):
            return False
    return all_unlike(value)


def good_board(value):
    """Whether the value is a board."""
    if not is_tuple(value, 3, 3) or not is_whole(value[0], 1, MOST_OPEN):
        return False
    wires, sections = value[1], value[2]
    if not is_tuple(sections, 1, MOST_ROOMS) or not is_tuple(wires, len(sections), len(sections)):
        return False
    if not all([good_section(section) for section in sections]):
        return False
    doors = [len(section[1]) for section in sections]
    return all([are_wires(one, room, doors) for room, one in enumerate(wires)])
