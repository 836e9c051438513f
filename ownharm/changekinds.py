"""The kinds of changes but inlinings: each one tells the body of the part behind it, None if it cannot be done."""

from ownharm.kinds import MODULUS
from ownharm.roomcheck import MOST_DEPTH, MOST_NODES
from ownharm.syntax import OPERATORS, children, depths_in, nodes_in

ZERO = ("number", 0)
ONE = ("number", 1)


def is_quiet(node):
    """Whether no run and no ask stands in a node."""
    return all([inner[0] != "run" and inner[0] != "ask" for inner in nodes_in([node])])


def stands_in(body, told):
    """Whether a node with these first two items stands in some nodes: that local, or a cell of that block."""
    return any([inner[:2] == told for inner in nodes_in(body)])


def has_room(body):
    """Whether a body is neither too long nor too deep for a part."""
    return len(nodes_in(body)) <= MOST_NODES and max([0] + depths_in(body, 1)) <= MOST_DEPTH


def worth_of(word, one, other):
    """What the word makes of two numbers, None if that is undefined."""
    if word == "plus":
        return (one + other) % MODULUS
    if word == "minus":
        return (one - other) % MODULUS
    if word == "times":
        return one * other % MODULUS
    if word == "less":
        return 1 if one < other else 0
    if word == "same":
        return 1 if one == other else 0
    return None if other == 0 else one % other


def folded(look, at):
    """Two numbers with a sign between become one number."""
    node = look.nodes[at]
    if node[0] not in OPERATORS or node[1][0] != "number" or node[2][0] != "number":
        return None
    worth = worth_of(node[0], node[1][1], node[2][1])
    return None if worth is None else look.with_node(at, ("number", worth))


def beside_unit(node):
    """The operand of a node whose other operand changes nothing; None if there is none."""
    if (node[0] == "plus" or node[0] == "minus") and node[2] == ZERO:
        return node[1]
    if node[0] == "times" and node[2] == ONE:
        return node[1]
    if (node[0] == "plus" and node[1] == ZERO) or (node[0] == "times" and node[1] == ONE):
        return node[2]
    return None


def without_unit(look, at):
    """What is added to 0, lessened by 0 or multiplied by 1 stands by itself."""
    left = beside_unit(look.nodes[at])
    return None if left is None else look.with_node(at, left)


def branched(look, at):
    """Of an if whose test is a number one body stays; a while whose test is 0 goes."""
    node = look.nodes[at]
    if node[0] == "if" and node[1][0] == "number":
        return look.with_list(at, 1, node[3] if node[1] == ZERO else node[2])
    if node[0] == "while" and node[1] == ZERO:
        return look.with_list(at, 1, ())
    return None


def cut_off(look, at):
    """What stands behind a give or a stop in its list goes."""
    node = look.nodes[at]
    if node[0] != "give" and node[0] != "stop":
        return None
    many = len(look.behind(at))
    return None if many == 0 else look.with_list(at, 1 + many, (node,))


def dropped(look, at):
    """A let of what is read nowhere goes."""
    node = look.nodes[at]
    if node[0] != "let" or not is_quiet(node) or stands_in(look.part[-1], ("local", node[1])):
        return None
    return look.with_list(at, 1, ())


def over_stored(look, at):
    """A store to a cell that the next statement stores to goes."""
    node = look.nodes[at]
    if node[0] != "store" or node[2][0] != "number" or not is_quiet(node):
        return None
    behind = look.behind(at)
    # The same first three items: both are stores to the same block with the same index.
    if not behind or behind[0][:3] != node[:3] or not is_quiet(behind[0]):
        return None
    if stands_in([behind[0][3]], ("cell", node[1])):
        return None
    return look.with_list(at, 1, ())


def written_by(statement):
    """The first two items of the nodes that read what a let or a store sets."""
    return ("local" if statement[0] == "let" else "cell", statement[1])


def swapped(look, at):
    """Two lets or stores that have nothing to do with one another change places."""
    one = look.nodes[at]
    behind = look.behind(at) if one[0] == "let" or one[0] == "store" else []
    if not behind or (behind[0][0] != "let" and behind[0][0] != "store"):
        return None
    other = behind[0]
    if not is_quiet(one) or not is_quiet(other) or written_by(one) == written_by(other):
        return None
    if stands_in(children(one), written_by(other)) or stands_in(children(other), written_by(one)):
        return None
    return look.with_list(at, 2, (other, one))


def peeled(look, at):
    """A while becomes an if with the same while at the end of its body."""
    node = look.nodes[at]
    if node[0] != "while":
        return None
    body = look.with_list(at, 1, (("if", node[1], (*node[2], node), ()),))
    return body if has_room(body) else None


def lets_in(body):
    """The list of the names that are let in some nodes."""
    return [node[1] for node in nodes_in(body) if node[0] == "let"]


def loadable(look, storing, at):
    """A dict of the names of the locals that hold what the cell with the index would be."""
    cell = look.nodes[at]
    found = {}
    if cell[0] != "cell" or cell[2][0] != "number":
        return found
    for own, position in look.ways[at]:
        holder = look.nodes[own[position]]
        between = children(holder)
        if cell[1] in storing.stored_by(between):
            continue
        barred = {name: True for name in lets_in(between)}
        for index in reversed(own[:position]):
            statement = look.nodes[index]
            if statement[0] == "let" and statement[2] == cell and statement[1] not in barred:
                found[statement[1]] = True
            if cell[1] in storing.stored_by([statement]):
                break
            for name in lets_in([statement]):
                barred[name] = True
    return found


# In the order in which they are told; a load and an inlining need a name or names, too.
PLAIN_KINDS = {
    "fold": folded, "unit": without_unit, "branch": branched, "cut": cut_off, "drop": dropped, "over": over_stored,
    "swap": swapped, "peel": peeled,
}
SHORT_KINDS = ("fold", "unit", "branch", "cut", "drop", "over")
