"""Judges any value: whether it is a row, a face, a view."""

from ownharm.boardcheck import are_wires
from ownharm.kinds import ENDS, MODULUS, MOST_DOORS, MOST_OPEN, MOST_ROOMS, is_tuple, is_whole

# What may stand in a crossing, as tuples (low, high, other): a whole from low to high that is not the other one.
NUMBER = (0, 9999, None)
DOOR = (0, 5, None)


class RowWalk:
    """Where a row has come to: the room in control, the open asks as pairs (from, to), the elder ones first."""

    def __init__(self):
        self.inside = None
        self.asks = []
        self.over = False

    def fields(self, word):
        """The list of what stands behind the word in a crossing that can follow; None if there is none."""
        if self.over:
            return None
        if self.inside is None:
            return [NUMBER] if word == "start" else None
        own = (self.inside, self.inside, None)
        asked = (0, MOST_ROOMS - 1, self.inside)
        if (word == "call" and len(self.asks) < MOST_OPEN) or (word == "deep" and len(self.asks) > 0):
            return [own, asked, DOOR, NUMBER]
        if word == "back" and len(self.asks) > 0:
            asker = self.asks[-1][0]
            return [own, (asker, asker, None), NUMBER]
        if word == "done" and len(self.asks) == 0:
            return [NUMBER]
        return [own] if word == "end" else None

    def can_follow(self, crossing):
        """Whether any value is a crossing that can follow."""
        if not isinstance(crossing, tuple) or len(crossing) == 0:
            return False
        told = self.fields(crossing[0])
        if told is None or len(crossing) != 1 + len(told):
            return False
        for at, (low, high, other) in enumerate(told, 1):
            item = crossing[at]
            if not isinstance(item, int) or item is True or item is False or not low <= item <= high or item == other:
                return False
        return True

    def take(self, crossing):
        """A crossing that can follow comes."""
        word = crossing[0]
        if word == "start":
            self.inside = 0
        elif word == "call":
            self.asks.append((crossing[1], crossing[2]))
            self.inside = crossing[2]
        elif word == "back":
            self.asks.pop()
            self.inside = crossing[2]
        else:
            self.over = True


def is_field(value, field):
    """Whether any value is what the field tells."""
    low, high, other = field
    return isinstance(value, int) and not isinstance(value, bool) and low <= value <= high and value != other


def good_row(value):
    """Whether the value is a row."""
    if not isinstance(value, (list, tuple)) or len(value) == 0:
        return False
    walk = RowWalk()
    for crossing in value:
        if not walk.can_follow(crossing):
            return False
        walk.take(crossing)
    return True


def walked(row):
    """Where a row has come to."""
    walk = RowWalk()
    for crossing in row:
        walk.take(crossing)
    return walk


def good_face(value):
    """Whether the value is a face."""
    if not is_tuple(value, 3, 3) or not is_whole(value[0], 1, MOST_OPEN):
        return False
    wires, doors = value[1], value[2]
    if not is_tuple(doors, 1, MOST_ROOMS) or not is_tuple(wires, len(doors), len(doors)):
        return False
    if not all([is_whole(many, 1, MOST_DOORS) for many in doors]):
        return False
    return all([are_wires(one, room, doors) for room, one in enumerate(wires)])


def are_events(values):
    """Whether all items of a list or tuple are events that may stand in a view."""
    for value in values:
        many = len(value) if isinstance(value, tuple) else 0
        if many == 2:
            word, number = value
            if word != "got":
                return False
        elif many == 3:
            word, door, number = value
            if word != "in" or not isinstance(door, int) or door is True or door is False or not 0 <= door < MOST_DOORS:
                return False
        else:
            return False
        if not isinstance(number, int) or number is True or number is False or not 0 <= number < MODULUS:
            return False
    return True


def are_acts(values):
    """Whether all items of a list or tuple are acts that may stand in a view."""
    for value in values:
        many = len(value) if isinstance(value, tuple) else 0
        if many == 2:
            word, number = value
            if word != "gives":
                return False
        elif many == 4:
            word, room, door, number = value
            if word != "calls" or not isinstance(room, int) or room is True or room is False:
                return False
            if not isinstance(door, int) or door is True or door is False:
                return False
            if not 0 <= room < MOST_ROOMS or not 0 <= door < MOST_DOORS:
                return False
        elif many == 1 and value[0] == "ends":
            continue
        else:
            return False
        if not isinstance(number, int) or number is True or number is False or not 0 <= number < MODULUS:
            return False
    return True


def good_event(value):
    """Whether the value is an event that may stand in a view."""
    return are_events([value])


def good_view(value):
    """Whether the value is a view."""
    if not isinstance(value, (list, tuple)) or not are_events(value[::2]) or not are_acts(value[1::2]):
        return False
    # Behind the end of the run there is nothing.
    if ENDS in value[:-1]:
        return False
    waiting = 0
    for item in value:
        if item[0] == "calls":
            waiting += 1
        elif item[0] == "got":
            waiting -= 1
            if waiting < 0:
                return False
    return True
