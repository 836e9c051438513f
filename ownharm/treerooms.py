"""The text of the room that does what a tree tells.

The tree stands in blocks: for each child the event and the node to which it leads, for each node its act. A
function does one turn behind another: it looks for the child that has the event, and does the act of its node;
the answer to an ask is the next event. All runnings share the cell that keeps the node at which the room is.
"""

SIZE = 10000
# What tells events apart, beside their numbers: "got" has this one, "in" the number of the door and 1.
GOT = 0
# The kind of the act "gives"; that of "calls" is the number of the import and 1.
GIVES = 0


def worth(told):
    """The expression for a local, told by its name, or for a number."""
    return ("local", told) if isinstance(told, str) else ("number", told)


def cell(block, index):
    """The expression for a cell; the index is a local, told by its name, or a number."""
    return ("cell", block, worth(index))


def same(one, other):
    """The expression that compares one with a local or a number."""
    return ("same", one, worth(other))


def search():
    """The statements that look among the children from i on, ahead of n; t becomes the node to which one leads."""
    found = (("let", "t", cell("to", "i")), ("let", "i", worth("n")))
    right_number = ("if", same(cell("value", "i"), "x"), found, ())
    go_on = ("let", "i", ("plus", worth("i"), worth(1)))
    body = (("if", same(cell("event", "i"), "e"), (right_number,), ()), go_on)
    return (("while", ("less", worth("i"), worth("n")), body),)


def turns(imports, inner):
    """The body of the function: turn behind turn; the first nodes, so many of them, are those with children."""
    look = (
        ("let", "i", cell("first", "s")),
        ("let", "n", ("cell", "first", ("plus", worth("s"), worth(1)))),
        *search(),
    )
    turn = (
        ("let", "s", cell("out", 0)),
        ("let", "t", worth(0)),
        ("if", ("less", worth("s"), worth(inner)), look, ()),
        ("if", same(worth("t"), 0), (("stop",),), ()),
        ("store", "out", worth(0), worth("t")),
        ("let", "k", cell("kind", "t")),
        ("if", same(worth("k"), GIVES), (("give", cell("out", "t")),), ()),
        ("let", "e", worth(GOT)),
        *[("if", same(worth("k"), at + 1), (("let", "x", ("ask", room, door, cell("out", "t"))),), ())
          for at, (room, door) in enumerate(imports)],
    )
    return (("while", worth(1), turn),)


def blocks_of(tree, wires):
    """The blocks in which a least tree stands; the nodes with children come first there, the root ahead of all."""
    parents = [at for at, node in enumerate(tree) if node[1]]
    order = parents + [at for at, node in enumerate(tree) if not node[1]]
    places = {node: at for at, node in enumerate(order)}
    children = []
    first = [0]
    for node in parents:
        children.extend(tree[node][1])
        first.append(len(children))
    asks = {pair: at + 1 for at, pair in enumerate(wires)}
    acts = [tree[node][0] for node in order[1:]]
    # The root has no act: what stands there keeps the node at which the room is, first the root itself.
    kinds = [0] + [GIVES if len(act) == 2 else asks[act[1:3]] for act in acts]
    numbers = [0] + [act[-1] for act in acts]
    told = (
        ("first", first), ("kind", kinds), ("out", numbers),
        ("event", [GOT if len(event) == 2 else 1 + event[1] for event, _ in children]),
        ("value", [event[-1] for event, _ in children]),
        ("to", [places[index] for _, index in children]),
    )
    # A block has one cell at least, also where there is no child.
    return tuple([(name, tuple(values) if values else (0,)) for name, values in told])


def free_name(barred):
    """A name that is none of the barred ones."""
    at = 0
    while f"turn{at}" in barred:
        at += 1
    return f"turn{at}"


def room_doing(source, wires, tree):
    """The room that does what a least tree tells, with the name, imports and names of doors of another one."""
    function = free_name([door[0] for door in source[4]])
    inner = len([node for node in tree if node[1]])
    doors = [(name, param, SIZE, (("give", ("run", function, (worth(at + 1), worth(param)))),))
             for at, (name, param, _, _) in enumerate(source[4])]
    body = turns(source[1], inner)
    return (source[0], source[1], blocks_of(tree, wires), ((function, ("e", "x"), body),), tuple(doors))
