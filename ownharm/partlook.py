"""A part of a room looked at as a whole: its nodes, and the lists in which its statements stand."""

from ownharm.syntax import bodies_in, expressions_in, nodes_in, numbered, with_node_at


class PartLook:
    """A part of a room.

    nodes is the list of its nodes in reading order; ways tells for each of them the statements in which it
    stands, itself among them, the outermost first: each as a pair of the list of the indices of the statements
    of its list and its position there.
    """

    def __init__(self, source, part):
        self.source = source
        self.part = part
        self.nodes = []
        self.ways = []
        self.enter_list(part[-1], ())

    def enter_list(self, body, way):
        """Takes the nodes of a list, which stands in the statements of the way."""
        own = []
        for position, statement in enumerate(body):
            own.append(len(self.nodes))
            self.enter(statement, (*way, (own, position)))

    def enter(self, node, way):
        """Takes a node and all that stands in it."""
        self.nodes.append(node)
        self.ways.append(way)
        for inner in expressions_in(node):
            self.enter(inner, way)
        for body in bodies_in(node):
            self.enter_list(body, way)

    def behind(self, at):
        """The list of the statements that stand behind a statement in its list."""
        own, position = self.ways[at][-1]
        return [self.nodes[index] for index in own[position + 1:]]

    def with_node(self, at, node):
        """The body of the part with another node in the place of the one with the index."""
        return tuple(with_node_at(self.part[-1], at, node))

    def with_list(self, at, many, new):
        """The body of the part with others in the place of so many statements, the first one with the index."""
        return with_statements(self.part[-1], at, many, tuple(new))


def with_statements(body, at, many, new):
    """A body with others in the place of so many statements of one list, the first one with the index."""
    spots = numbered(body, 0)
    holder = max([position for position, (index, _) in enumerate(spots) if index <= at])
    index, statement = spots[holder]
    if index == at:
        return body[:holder] + new + body[holder + many:]
    inner = with_inner_statements(statement, at - index - 1, many, new)
    return (*body[:holder], inner, *body[holder + 1:])


def with_inner_statements(statement, at, many, new):
    """An if or a while with others in a list in it; the index is counted from its test."""
    at -= len(nodes_in([statement[1]]))
    first = len(nodes_in(statement[2]))
    if at < first:
        return (*statement[:2], with_statements(statement[2], at, many, new), *statement[3:])
    return (*statement[:3], with_statements(statement[3], at - first, many, new))
