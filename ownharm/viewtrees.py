"""Trees of views: what a room does behind everything that came in to it."""

from ownharm.errors import BadEvents, BadTree, BadViews, Parted
from ownharm.kinds import ENDS, is_tuple, is_whole
from ownharm.rowcheck import good_act, good_event, good_view

MOST_VIEWS = 200


def is_child(value, many):
    """Whether any value is a child in a tree with so many nodes."""
    return is_tuple(value, 2, 2) and good_event(value[0]) and is_whole(value[1], 1, many - 1)


def is_tree_node(value, many):
    """Whether any value is a node of a tree with so many nodes, whichever of them."""
    if not is_tuple(value, 2, 2) or not isinstance(value[1], tuple):
        return False
    if value[0] is not None and not good_act(value[0]):
        return False
    if not all([is_child(child, many) for child in value[1]]):
        return False
    events = [event for event, _ in value[1]]
    return all([events[at] < events[at + 1] for at in range(len(events) - 1)])


def is_root(node):
    """Whether a node can be the root."""
    return node[0] is None and all([event[0] == "in" for event, _ in node[1]])


def nothing_follows(node):
    """Whether a node other than the root tells that nothing comes behind it."""
    return node[0] is None or node[0] == ENDS


def parents_first(tree):
    """The list of the nodes to which ways lead from the root, each one behind all its parents.

    Nodes that lie on a way back, and those behind them, are left out.
    """
    waiting = [0] * len(tree)
    for _, children in tree:
        for _, index in children:
            waiting[index] += 1
    found = [0]
    at = 0
    while at < len(found):
        for _, index in tree[found[at]][1]:
            waiting[index] -= 1
            if waiting[index] == 0:
                found.append(index)
        at += 1
    return found


def is_tree(value):
    """Whether any value is a tree."""
    if not isinstance(value, tuple) or len(value) == 0:
        return False
    if not all([is_tree_node(node, len(value)) for node in value]) or not is_root(value[0]):
        return False
    if any([nothing_follows(node) and len(node[1]) > 0 for node in value[1:]]):
        return False
    return len(parents_first(value)) == len(value)


def need_tree(tree):
    """BadTree for what is no tree."""
    if not is_tree(tree):
        raise BadTree("the value is no tree")


class TreeGrowth:
    """A tree while views are taken into it.

    By the numbers of its nodes: acts, ways (dicts from events to children), and tellers, the first views that
    told the acts.
    """

    def __init__(self):
        self.acts = []
        self.ways = []
        self.tellers = []
        self.add_node()

    def add_node(self):
        """Adds a node that tells nothing yet; its number."""
        self.acts.append(None)
        self.ways.append({})
        self.tellers.append(None)
        return len(self.acts) - 1

    def child(self, node, event):
        """The child to which an event leads, a new one if there is none yet."""
        if event not in self.ways[node]:
            self.ways[node][event] = self.add_node()
        return self.ways[node][event]

    def grow(self, index, view):
        """Takes in the view with the index; Parted if it parts with one ahead of it."""
        node = 0
        for at, item in enumerate(view):
            if at % 2 == 0:
                node = self.child(node, item)
            elif self.acts[node] is None:
                self.acts[node] = item
                self.tellers[node] = index
            elif self.acts[node] != item:
                raise Parted(self.tellers[node], index, at)

    def grown(self):
        """The tree of the views taken in."""
        return tuple([(act, tuple(sorted(list(way.items())))) for act, way in zip(self.acts, self.ways)])


def tree_of(views):
    """The tree of just these views, each node a child once."""
    if not isinstance(views, (list, tuple)) or len(views) > MOST_VIEWS or not all([good_view(view) for view in views]):
        raise BadViews("the value is no list of 0 to 200 views")
    growth = TreeGrowth()
    for index, view in enumerate(views):
        growth.grow(index, view)
    return growth.grown()


def need_events(events):
    """BadEvents for what is no list of one or more events."""
    if not isinstance(events, (list, tuple)) or len(events) == 0:
        raise BadEvents(None)
    for at, event in enumerate(events):
        if not good_event(event):
            raise BadEvents(at)


def act_behind(tree, events):
    """The act that the tree tells behind these events."""
    need_tree(tree)
    need_events(events)
    node = tree[0]
    for event in events:
        told = [index for other, index in node[1] if other == event]
        if not told:
            return ENDS
        node = tree[told[0]]
    return ENDS if node[0] is None else node[0]


class TreeKinds:
    """The kinds of the nodes of a tree: those of one kind tell the same, their own act and behind all events.

    shapes has for each kind its act and the tuple of the pairs (event, kind of the child); kinds has for each node
    its kind, or None if it tells that nothing comes behind it.
    """

    def __init__(self, tree):
        self.shapes = []
        self.kinds = [None] * len(tree)
        known = {}
        for node in reversed(parents_first(tree)):
            if node == 0 or not nothing_follows(tree[node]):
                shape = self.shape_of(tree[node])
                if shape not in known:
                    known[shape] = len(self.shapes)
                    self.shapes.append(shape)
                self.kinds[node] = known[shape]

    def shape_of(self, node):
        """What a node tells, the kinds of its children being known."""
        below = [(event, self.kinds[index]) for event, index in node[1] if self.kinds[index] is not None]
        return (node[0], tuple(below))

    def met_from_root(self):
        """The list of the kinds in the order in which they are met from the root on."""
        met = [self.kinds[0]]
        known = {self.kinds[0]: True}
        at = 0
        while at < len(met):
            for _, kind in self.shapes[met[at]][1]:
                if kind not in known:
                    known[kind] = True
                    met.append(kind)
            at += 1
        return met


def least_tree(tree):
    """The tree with the fewest nodes that tells the same behind all lists of events."""
    need_tree(tree)
    told = TreeKinds(tree)
    met = told.met_from_root()
    numbers = {kind: at for at, kind in enumerate(met)}
    nodes = [(told.shapes[kind][0], tuple([(event, numbers[below]) for event, below in told.shapes[kind][1]]))
             for kind in met]
    return tuple(nodes)
