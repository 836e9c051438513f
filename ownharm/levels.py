"""What small rooms do beside all partners, in plays of any length."""

from ownharm.errors import BadLevels, Harmful, OtherMake, TooMany
from ownharm.kinds import is_whole
from ownharm.levelwalk import LevelWalk
from ownharm.playmoves import HarmMoves, PairMoves, WishMoves
from ownharm.roomturns import RoomTurns
from ownharm.shortplays import shortest_play
from ownharm.wishes import need_small, need_wish

MOST_LEVELS = 30
MOST_ITEMS = 400


def need_levels(levels):
    """BadLevels for what is no whole from 1 to 30, nor None; how many levels they are."""
    if levels is None:
        return MOST_LEVELS
    if not is_whole(levels, 1, MOST_LEVELS):
        raise BadLevels("the value is no whole from 1 to 30, nor None")
    return levels


def walked(game, levels):
    """The walk through all plays with so many levels."""
    walk = LevelWalk(game)
    for _ in range(levels):
        walk.add_level()
    return walk


def shortest_goal(walk, levels):
    """The pair of the shortest play to a goal and what is told of that; None if there is none; TooMany."""
    if not walk.has_goal:
        return None
    found = shortest_play(walk, levels, MOST_ITEMS)
    if found is None:
        raise TooMany(MOST_ITEMS)
    return found


def ascending(memories):
    """The list of some contents, ascending, None taken as -1."""
    told = []
    for memory in memories:
        key = tuple([tuple([-1 if value is None else value for value in cells]) for cells in memory])
        told.append((key, memory))
    return [memory for _, memory in sorted(told)]


def contents(small, levels=None):
    """The list of all contents that are there while the partner has control."""
    need_small(small)
    most = need_levels(levels)
    turns = RoomTurns(small)
    walked(HarmMoves(turns), most)
    return ascending(turns.memories.things)


def closed_level(small):
    """The least levels with which the contents are those of 30 levels."""
    need_small(small)
    turns = RoomTurns(small)
    walk = LevelWalk(HarmMoves(turns))
    counts = []
    for _ in range(MOST_LEVELS):
        walk.add_level()
        counts.append(len(turns.memories.things))
    return 1 + counts.index(counts[-1])


def harm(small, levels=None):
    """The pair of a shortest play behind which the room does an undefined step and of its place, or None."""
    need_small(small)
    most = need_levels(levels)
    return shortest_goal(walked(HarmMoves(RoomTurns(small)), most), most)


def is_harmless(small, levels=None):
    """Whether there is no play behind which the room does an undefined step."""
    need_small(small)
    most = need_levels(levels)
    return not walked(HarmMoves(RoomTurns(small)), most).has_goal


def harmless_turns(small, levels):
    """The turns of a room; Harmful if it does an undefined step in a play with so many levels."""
    turns = RoomTurns(small)
    told = shortest_goal(walked(HarmMoves(turns), levels), levels)
    if told is not None:
        raise Harmful(told[0])
    return turns


def wished(small, wish, levels):
    """NotSmall, BadWish, BadLevels, Harmful; the pair of the walk of a room and a wish and of its levels."""
    need_small(small)
    need_wish(wish)
    most = need_levels(levels)
    return (walked(WishMoves(harmless_turns(small, most), wish), most), most)


def breaking(small, wish, levels=None):
    """A shortest play whose last item breaks the wish, None if there is none."""
    walk, most = wished(small, wish, levels)
    told = shortest_goal(walk, most)
    return None if told is None else told[0]


def is_kept(small, wish, levels=None):
    """Whether no play breaks the wish."""
    walk, _ = wished(small, wish, levels)
    return not walk.has_goal


def make_of(small):
    """What two small rooms must have alike to be of one make."""
    return (small[0], small[1], [door[0] for door in small[4]])


def compared(one, other, levels):
    """NotSmall, BadLevels, OtherMake, Harmful; the pair of the walk of both rooms together and of its levels."""
    need_small(one)
    need_small(other)
    most = need_levels(levels)
    if make_of(one) != make_of(other):
        raise OtherMake("the rooms have unlike names, imports or doors")
    turns = harmless_turns(one, most)
    return (walked(PairMoves(turns, harmless_turns(other, most)), most), most)


def parting(one, other, levels=None):
    """The pair of the shortest plays of both rooms that are equal but for their last acts, None if there are none."""
    walk, most = compared(one, other, levels)
    told = shortest_goal(walk, most)
    if told is None:
        return None
    play, act = told
    return (play, play[:-1] + [act])


def are_alike(one, other, levels=None):
    """Whether no plays part the two rooms."""
    walk, _ = compared(one, other, levels)
    return not walk.has_goal
