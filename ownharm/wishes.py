"""Small rooms, and wishes about what is seen of them."""

from ownharm.errors import BadView, BadWish, NotSmall
from ownharm.kinds import ENDS, is_number, is_tuple, is_whole
from ownharm.roomcheck import good_room
from ownharm.rowcheck import DOOR, good_view, is_field
from ownharm.syntax import nodes_in, parts_of

MOST_IMPORTS = 6
MOST_REST = 6
MOST_STATES = 6
MOST_RULES = 40
WORDS = ("in", "got", "calls", "gives", "ends")


def is_small_rest(node):
    """Whether a node is the rest of an ask by a number from 1 to 6."""
    if node[0] != "rest" or node[1][0] != "ask" or node[2][0] != "number":
        return False
    return 1 <= node[2][1] <= MOST_REST


def is_small(value):
    """Whether any value is a small room."""
    if not good_room(value):
        return False
    imports, doors = value[1], value[4]
    if len(imports) > MOST_IMPORTS or any([pair[0] != imports[0][0] for pair in imports]):
        return False
    if any([door[2] > MOST_REST for door in doors]):
        return False
    all_nodes = [node for part in parts_of(value) for node in nodes_in(part[-1])]
    # Each ask is the first operand of a rest of its own, if it is that of one at all.
    asks = [node for node in all_nodes if node[0] == "ask"]
    return len(asks) == len([node for node in all_nodes if is_small_rest(node)])


def need_small(small):
    """NotSmall for what is no small room."""
    if not is_small(small):
        raise NotSmall("the value is no small room")


def is_rule(value, states):
    """Whether any value is a rule of a wish with so many states."""
    if not is_tuple(value, 6, 6):
        return False
    state, word, door, low, high, after = value
    if not is_whole(state, 0, states - 1) or word not in WORDS:
        return False
    if door is not None and not (word in ("in", "calls") and is_field(door, DOOR)):
        return False
    if not is_number(low) or not is_number(high) or low > high:
        return False
    return after is None or is_whole(after, 0, states - 1)


def is_wish(value):
    """Whether any value is a wish."""
    if not is_tuple(value, 2, 2) or not is_whole(value[0], 1, MOST_STATES) or not is_tuple(value[1], 0, MOST_RULES):
        return False
    return all([is_rule(rule, value[0]) for rule in value[1]])


def need_wish(wish):
    """BadWish for what is no wish."""
    if not is_wish(wish):
        raise BadWish("the value is no wish")


def state_behind(wish, state, item):
    """The state of a wish behind one item more, None if the item breaks it."""
    number = 0 if item == ENDS else item[-1]
    for own, word, door, low, high, after in wish[1]:
        # A rule tells a door of "in" and "calls" alone, and there it stands ahead of the number.
        if own == state and word == item[0] and (door is None or door == item[-2]) and low <= number <= high:
            return after
    return state


def read_through(wish, view):
    """The pair (state of the wish behind the view, None), or (None, index of the item that breaks it)."""
    state = 0
    for at, item in enumerate(view):
        state = state_behind(wish, state, item)
        if state is None:
            return (None, at)
    return (state, None)


def need_wish_and_view(wish, view):
    """BadWish, BadView."""
    need_wish(wish)
    if not good_view(view):
        raise BadView("the value is no view")


def wish_state(wish, view):
    """The state of a wish behind a view, None if it is broken."""
    need_wish_and_view(wish, view)
    return read_through(wish, view)[0]


def broken_at(wish, view):
    """The index of the item of a view that breaks a wish, None if none does."""
    need_wish_and_view(wish, view)
    return read_through(wish, view)[1]
