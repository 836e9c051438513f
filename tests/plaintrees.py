"""Trees of views drawn from a seed, and what they tell by plain words, written apart from the package."""

ENDS = ("ends",)


def tells(tree, events):
    """The act behind events, one or more."""
    node = 0
    for event in events:
        ways = dict(tree[node][1])
        if event not in ways:
            return ENDS
        node = ways[event]
    return tree[node][0] or ENDS


def meaning(tree, node=0, known=None):
    """What a node tells behind all lists of events, as a text; the same text for all that tell the same."""
    known = {} if known is None else known
    if node not in known:
        act, children = tree[node]
        below = sorted((event, meaning(tree, index, known)) for event, index in children)
        if node != 0 and (act is None or act == ENDS):
            known[node] = "ends"
        else:
            known[node] = repr((act, [pair for pair in below if pair[1] != "ends"]))
    return known[node]


def meanings(tree):
    """The texts of all nodes that can be met and do not only end."""
    known = {}
    meaning(tree, 0, known)
    found, border = set(), [0]
    while border:
        node = border.pop()
        if known[node] not in found:
            found.add(known[node])
            border += [index for _, index in tree[node][1] if known[index] != "ends"]
    return found


def draw_event(rng, doors, at_root=False):
    if at_root or rng.random() < 0.4:
        return ("in", rng.randrange(doors), rng.choice([0, 1, 2, 9999]))
    return ("got", rng.choice([0, 1, 2, 9999]))


def draw_act(rng, wires):
    kind = rng.random()
    if kind < 0.1:
        return ENDS
    if kind < 0.6 and wires:
        to, door = rng.choice(wires)
        return ("calls", to, door, rng.choice([0, 1, 9999]))
    return ("gives", rng.choice([0, 1, 9999]))


def draw_tree(rng, nodes, wires=((1, 0), (2, 5)), doors=3, shared=0.3):
    """A tree of so many nodes at most; some are children of more than one."""
    acts, ways = [None], [{}]
    for _ in range(1, nodes):
        parents = [at for at in range(len(acts)) if at == 0 or acts[at] not in (None, ENDS)]
        parent = rng.choice(parents)
        event = draw_event(rng, doors, parent == 0)
        if event in ways[parent]:
            continue
        ways[parent][event] = len(acts)
        acts.append(None if rng.random() < 0.05 else draw_act(rng, wires))
        ways.append({})
        if rng.random() < shared and len(acts) > 3:
            # A child with a greater number: so no way leads back.
            one, other = sorted(rng.sample(range(1, len(acts)), 2))
            if acts[one] not in (None, ENDS):
                ways[one].setdefault(draw_event(rng, doors), other)
    return tuple((act, tuple(sorted(way.items()))) for act, way in zip(acts, ways))


def renumbered(tree, rng):
    """The same tree with its nodes but the root numbered otherwise."""
    order = list(range(1, len(tree)))
    rng.shuffle(order)
    places = dict(zip([0] + order, range(len(tree))))
    return tuple((tree[old][0], tuple((event, places[index]) for event, index in tree[old][1])) for old in [0] + order)


def unfolded(tree, rng, most):
    """The same tree with shared nodes split into more, so many at most."""
    nodes = [list(node) for node in tree]
    for _ in range(most):
        counts = {}
        for _, children in nodes:
            for _, index in children:
                counts[index] = counts.get(index, 0) + 1
        split = [index for index, count in sorted(counts.items()) if count > 1]
        if not split:
            break
        chosen = rng.choice(split)
        holder = rng.choice([at for at, node in enumerate(nodes) if chosen in [index for _, index in node[1]]])
        spot = rng.choice([at for at, (_, index) in enumerate(nodes[holder][1]) if index == chosen])
        children = list(nodes[holder][1])
        children[spot] = (children[spot][0], len(nodes))
        nodes[holder][1] = tuple(children)
        nodes.append(list(nodes[chosen]))
    return tuple((act, children) for act, children in nodes)


def with_dead_ends(tree, rng, many):
    """The same tree with more children that only end: bare ones, and such with the act."""
    nodes = [list(node) for node in tree]
    for _ in range(many):
        holders = [at for at, (act, _) in enumerate(nodes) if at == 0 or act not in (None, ENDS)]
        holder = rng.choice(holders)
        event = ("in", rng.randrange(3), 7000 + rng.randrange(100)) if holder == 0 else ("got", 7000 + rng.randrange(100))
        if event not in dict(nodes[holder][1]):
            nodes[holder][1] = tuple(sorted(nodes[holder][1] + ((event, len(nodes)),)))
            nodes.append([rng.choice([None, ENDS]), ()])
    return tuple((act, children) for act, children in nodes)


def ways_of(tree):
    """All rows of events that the tree holds, with the acts on the way as views; for trees with few ways."""
    found = []

    def walk(node, view):
        for event, index in tree[node][1]:
            act = tree[index][0] or ENDS
            found.append(view + [event, act])
            walk(index, view + [event, act])

    walk(0, [])
    return found
