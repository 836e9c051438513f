"""Trees of views: what a room does behind everything that came in to it."""

from ownharm.errors import BadEvents, BadTree, BadViews, Parted
from ownharm.kinds import ENDS
from ownharm.rowcheck import are_acts, are_events, good_event, good_view

MOST_VIEWS = 200


def nodes_told(value):
    """What some nodes tell, None if one of the values is no node or one of their children is none of them.

    It is the lists of the acts, of the events and of the children, the first two unjudged, and whether each child
    stands behind its parents.
    """
    many = len(value)
    acts = []
    events = []
    indices = []
    forward = True
    for at, node in enumerate(value):
        if not isinstance(node, tuple) or len(node) != 2:
            return None
        act, children = node
        if not isinstance(children, tuple):
            return None
        if act is not None:
            acts.append(act)
        for child in children:
            if not isinstance(child, tuple) or len(child) != 2:
                return None
            event, index = child
            # Nothing leads to the root, nor does False.
            if not isinstance(index, int) or index is True or not 0 < index < many:
                return None
            events.append(event)
            indices.append(index)
            if index <= at:
                forward = False
    return (acts, events, indices, forward)


def are_ascending(children):
    """Whether the good events of children ascend."""
    for (one, _), (other, _) in zip(children, children[1:]):
        if not one < other:
            return False
    return True


def is_root(node):
    """Whether a node can be the root."""
    return node[0] is None and all([event[0] == "in" for event, _ in node[1]])


def parents_first(tree):
    """The list of the nodes to which ways lead from the root, each one behind all its parents.

    Nodes that lie on a way back, and those behind them, are left out.
    """
    waiting = [0] * len(tree)
    for _, children in tree:
        for _, index in children:
            waiting[index] += 1
    found = [0]
    # What is found grows while it is gone through.
    at = 0
    while at < len(found):
        last = found[at]
        for _, index in tree[last][1]:
            if waiting[index] == 1:
                found.append(index)
            waiting[index] -= 1
        at += 1
    return found


def tree_told(value):
    """What the nodes of a tree tell, as nodes_told has it; None for any other value."""
    if not isinstance(value, tuple) or len(value) == 0:
        return None
    told = nodes_told(value)
    if told is None or not are_acts(told[0]) or not are_events(told[1]) or not is_root(value[0]):
        return None
    for _, children in value:
        if len(children) > 1 and not are_ascending(children):
            return None
    for act, children in value[1:]:
        # Of one item is the act that ends the run alone.
        if children and (act is None or len(act) == 1):
            return None
    # Where no way leads back, whoever has a parent hangs together with the root.
    reached = len(set(told[2])) + 1 if told[3] else len(parents_first(value))
    return told if reached == len(value) else None


def is_tree(value):
    """Whether any value is a tree."""
    return tree_told(value) is not None


def need_tree(tree):
    """BadTree for what is no tree; what its nodes tell."""
    told = tree_told(tree)
    if told is None:
        raise BadTree("the value is no tree")
    return told


class TreeGrowth:
    """A tree while views are taken into it.

    By the numbers of its nodes: acts, ways (dicts from events to children), and tellers, the first views that
    told the acts.
    """

    def __init__(self):
        self.acts = []
        self.ways = []
        self.tellers = []
        self.add_node()

    def add_node(self):
        """Adds a node that tells nothing yet; its number."""
        self.acts.append(None)
        self.ways.append({})
        self.tellers.append(None)
        return len(self.acts) - 1

    def child(self, node, event):
        """The child to which an event leads, a new one if there is none yet."""
        if event not in self.ways[node]:
            self.ways[node][event] = self.add_node()
        return self.ways[node][event]

    def grow(self, index, view):
        """Takes in the view with the index; Parted if it parts with one ahead of it."""
        node = 0
        for at, item in enumerate(view):
            if at % 2 == 0:
                node = self.child(node, item)
            elif self.acts[node] is None:
                self.acts[node] = item
                self.tellers[node] = index
            elif self.acts[node] != item:
                raise Parted(self.tellers[node], index, at)

    def grown(self):
        """The tree of the views taken in."""
        return tuple([(act, tuple(sorted(list(way.items())))) for act, way in zip(self.acts, self.ways)])


def tree_behind(views):
    """The tree of just these good views, each child behind its parent; Parted."""
    growth = TreeGrowth()
    for index, view in enumerate(views):
        growth.grow(index, view)
    return growth.grown()


def tree_of(views):
    """The tree of just these views, each node a child once."""
    if not isinstance(views, (list, tuple)) or len(views) > MOST_VIEWS or not all([good_view(view) for view in views]):
        raise BadViews("the value is no list of 0 to 200 views")
    return tree_behind(views)


def need_events(events):
    """BadEvents for what is no list of one or more events."""
    if not isinstance(events, (list, tuple)) or len(events) == 0:
        raise BadEvents(None)
    for at, event in enumerate(events):
        if not good_event(event):
            raise BadEvents(at)


def act_behind(tree, events):
    """The act that the tree tells behind these events."""
    need_tree(tree)
    need_events(events)
    node = tree[0]
    for event in events:
        told = [index for other, index in node[1] if other == event]
        if not told:
            return ENDS
        node = tree[told[0]]
    return ENDS if node[0] is None else node[0]


class TreeKinds:
    """The kinds of the nodes of a tree: those of one kind tell the same, their own act and behind all events.

    shapes has for each kind its act and the tuple of the pairs (event, kind of the child); kinds has for each node
    its kind, or None if it tells that nothing comes behind it.
    """

    def __init__(self, tree, forward):
        self.shapes = []
        kinds = [None] * len(tree)
        known = {}
        order = list(range(len(tree))) if forward else parents_first(tree)
        # All children of a node ahead of it.
        for node in order[::-1]:
            act, children = tree[node]
            if children or node == 0 or (act is not None and len(act) > 1):
                below = [(event, kinds[index]) for event, index in children if kinds[index] is not None]
                shape = (act, tuple(below))
                kind = known.setdefault(shape, len(self.shapes))
                if kind == len(self.shapes):
                    self.shapes.append(shape)
                kinds[node] = kind
        self.kinds = kinds

    def numbers_from_root(self):
        """The dict from the kinds to their numbers, as they are met from the root on."""
        root = self.kinds[0]
        numbers = {root: 0}
        met = [root]
        # What is met grows while it is gone through.
        at = 0
        while at < len(met):
            last = met[at]
            for _, kind in self.shapes[last][1]:
                if kind not in numbers:
                    numbers[kind] = len(met)
                    met.append(kind)
            at += 1
        return numbers


def least_behind(tree, forward):
    """The tree with the fewest nodes that tells the same as a good one; forward is whether all children of that stand
    behind their parents."""
    told = TreeKinds(tree, forward)
    numbers = told.numbers_from_root()
    nodes = []
    for kind in numbers:
        act, children = told.shapes[kind]
        nodes.append((act, tuple([(event, numbers[below]) for event, below in children])))
    return tuple(nodes)


def least_tree(tree):
    """The tree with the fewest nodes that tells the same behind all lists of events."""
    told = need_tree(tree)
    return least_behind(tree, told[3])
