"""Judges any value: whether it is a row, a face, a view."""

from ownharm.boardcheck import are_wires
from ownharm.kinds import ENDS, MOST_DOORS, MOST_OPEN, MOST_ROOMS, is_number, is_tuple, is_whole

# What may stand in a crossing, as tuples (low, high, other): a whole from low to high that is not the other one.
NUMBER = (0, 9999, None)
DOOR = (0, 5, None)


class RowWalk:
    """Where a row has come to: the room in control, the open asks as pairs (from, to), the elder ones first."""

    def __init__(self):
        self.inside = None
        self.asks = []
        self.over = False

    def fields(self, word):
        """The list of what stands behind the word in a crossing that can follow; None if there is none."""
        if self.over:
            return None
        if self.inside is None:
            return [NUMBER] if word == "start" else None
        own = (self.inside, self.inside, None)
        asked = (0, MOST_ROOMS - 1, self.inside)
        if (word == "call" and len(self.asks) < MOST_OPEN) or (word == "deep" and len(self.asks) > 0):
            return [own, asked, DOOR, NUMBER]
        if word == "back" and len(self.asks) > 0:
            asker = self.asks[-1][0]
            return [own, (asker, asker, None), NUMBER]
        if word == "done" and len(self.asks) == 0:
            return [NUMBER]
        return [own] if word == "end" else None

    def can_follow(self, crossing):
        """Whether any value is a crossing that can follow."""
        if not is_tuple(crossing, 1, 5):
            return False
        told = self.fields(crossing[0])
        if told is None or len(crossing) != 1 + len(told):
            return False
        return all([is_field(crossing[1 + at], field) for at, field in enumerate(told)])

    def take(self, crossing):
        """A crossing that can follow comes."""
        word = crossing[0]
        if word == "start":
            self.inside = 0
        elif word == "call":
            self.asks.append((crossing[1], crossing[2]))
            self.inside = crossing[2]
        elif word == "back":
            self.asks.pop()
            self.inside = crossing[2]
        else:
            self.over = True


def is_field(value, field):
    """Whether any value is what the field tells."""
    low, high, other = field
    return is_whole(value, low, high) and value != other


def good_row(value):
    """Whether the value is a row."""
    if not isinstance(value, (list, tuple)) or len(value) == 0:
        return False
    walk = RowWalk()
    for crossing in value:
        if not walk.can_follow(crossing):
            return False
        walk.take(crossing)
    return True


def walked(row):
    """Where a row has come to."""
    walk = RowWalk()
    for crossing in row:
        walk.take(crossing)
    return walk


def good_face(value):
    """Whether the value is a face."""
    if not is_tuple(value, 3, 3) or not is_whole(value[0], 1, MOST_OPEN):
        return False
    wires, doors = value[1], value[2]
    if not is_tuple(doors, 1, MOST_ROOMS) or not is_tuple(wires, len(doors), len(doors)):
        return False
    if not all([is_whole(many, 1, MOST_DOORS) for many in doors]):
        return False
    return all([are_wires(one, room, doors) for room, one in enumerate(wires)])


def good_event(value):
    """Whether the value is an event that may stand in a view."""
    if is_tuple(value, 3, 3):
        return value[0] == "in" and is_field(value[1], DOOR) and is_number(value[2])
    return is_tuple(value, 2, 2) and value[0] == "got" and is_number(value[1])


def good_act(value):
    """Whether the value is an act that may stand in a view."""
    if is_tuple(value, 4, 4):
        to, door, number = value[1:]
        return value[0] == "calls" and is_whole(to, 0, MOST_ROOMS - 1) and is_field(door, DOOR) and is_number(number)
    if is_tuple(value, 2, 2):
        return value[0] == "gives" and is_number(value[1])
    return is_tuple(value, 1, 1) and value[0] == "ends"


def good_view(value):
    """Whether the value is a view."""
    if not isinstance(value, (list, tuple)):
        return False
    waiting = 0
    for at, item in enumerate(value):
        if at > 0 and value[at - 1] == ENDS:
            return False
        if not (good_event(item) if at % 2 == 0 else good_act(item)):
            return False
        if item[0] == "calls":
            waiting += 1
        elif item[0] == "got":
            waiting -= 1
        if waiting < 0:
            return False
    return True
