"""Plays of small rooms, and the partners that bring them about."""

from ownharm.alone import is_event, outcome
from ownharm.errors import BadPlay, TooMany
from ownharm.kinds import MOST_OPEN
from ownharm.levels import MOST_ITEMS, MOST_LEVELS, parting
from ownharm.making import made
from ownharm.roomalone import RoomAlone
from ownharm.roomturns import MOST_STEPS, mate_wires
from ownharm.rowcheck import good_view
from ownharm.treerooms import SIZE
from ownharm.viewtrees import tree_of
from ownharm.wishes import need_small

MATE = 0
SMALL = 1


def can_come(small, waits, event):
    """Whether an event can come while these runnings wait."""
    if event[0] == "in" and len(waits) == MOST_LEVELS:
        return False
    return is_event(small, waits, event)


def is_play(small, value):
    """Whether any value is a play of the room."""
    need_small(small)
    if not good_view(value):
        return False
    alone = RoomAlone(small, mate_wires(small))
    act = None
    for at, item in enumerate(value):
        if at % 2 == 0:
            if not can_come(small, alone.waits, item):
                return False
            act = outcome(alone, item, MOST_STEPS)
        elif item != act:
            return False
    return True


def seen_by_mate(play):
    """The view that the mate has, beside which the room has this play."""
    view = [("in", 0, 0)]
    for item in play:
        if item[0] == "in":
            view.append(("calls", SMALL, item[1], item[2]))
        elif item[0] == "calls":
            view.append(("in", item[2], item[3]))
        elif item[0] == "got":
            view.append(("gives", item[1]))
        elif item[0] == "gives":
            view.append(("got", item[1]))
    return view


def bare_mate(small):
    """A room that has the name and the doors that the small room imports and imports all its doors; it does nothing."""
    doors = [door for _, door in small[1]]
    if small[1]:
        name = small[1][0][0]
    else:
        name = "mate" if small[0] != "mate" else "other"
        doors = ["go"]
    imports = tuple([(small[0], door[0]) for door in small[4]])
    return (name, imports, (), (), tuple([(door, "x", SIZE, ()) for door in doors]))


def mate_for(small, plays):
    """The mate that brings these plays about and ends the run once one of them is over."""
    program = (MOST_OPEN, (bare_mate(small), small))
    # Behind what is told nothing else is: there the tree ends the run.
    return made(program, MATE, tree_of([seen_by_mate(play) for play in plays]))


def partner(small, play):
    """A program of a mate and the room, of which the run with 0 shows the play."""
    if not is_play(small, play):
        raise BadPlay("the value is no play of the room")
    if len(play) > MOST_ITEMS:
        raise TooMany(MOST_ITEMS)
    return (MOST_OPEN, (mate_for(small, [play]), small))


def parting_partner(one, other, levels=None):
    """A mate beside which the two rooms do unlike acts, None if there is none."""
    plays = parting(one, other, levels)
    if plays is None:
        return None
    return mate_for(one, plays)
