"""Nodes and parts of rooms that are known to be good: what stands in what, in reading order."""

OPERATORS = ("plus", "minus", "times", "rest", "less", "same")
WORD_SIGNS = {"plus": "+", "minus": "-", "times": "*", "rest": "rest", "less": "<", "same": "="}
SIGN_WORDS = {"+": "plus", "-": "minus", "*": "times", "rest": "rest", "<": "less", "=": "same"}
STATEMENTS = ("let", "store", "if", "while", "give", "stop")


def children(node):
    """The nodes that stand directly in a node, in reading order."""
    word = node[0]
    if word in OPERATORS:
        return [node[1], node[2]]
    if word == "cell" or word == "let":
        return [node[2]]
    if word == "store":
        return [node[2], node[3]]
    if word == "run":
        return list(node[2])
    if word == "ask":
        return [node[3]]
    if word == "if":
        return [node[1], *node[2], *node[3]]
    if word == "while":
        return [node[1], *node[2]]
    if word == "give":
        return [node[1]]
    return []


def bodies_in(node):
    """The bodies that stand directly in a node."""
    if node[0] == "if":
        return [node[2], node[3]]
    if node[0] == "while":
        return [node[2]]
    return []


def expressions_in(node):
    """The expressions that stand directly in a node, not those in its bodies."""
    if node[0] == "if" or node[0] == "while":
        return [node[1]]
    return children(node)


def with_children(node, inner):
    """The node with other nodes in the places of its children, one for each."""
    word = node[0]
    if word in OPERATORS:
        return (word, inner[0], inner[1])
    if word == "cell" or word == "let":
        return (word, node[1], inner[0])
    if word == "store":
        return (word, node[1], inner[0], inner[1])
    if word == "run":
        return (word, node[1], tuple(inner))
    if word == "ask":
        return (word, node[1], node[2], inner[0])
    if word == "if":
        behind = 1 + len(node[2])
        return (word, inner[0], tuple(inner[1:behind]), tuple(inner[behind:]))
    if word == "while":
        return (word, inner[0], tuple(inner[1:]))
    if word == "give":
        return (word, inner[0])
    return node


def nodes_in(body):
    """All nodes of some nodes that stand one behind another, in reading order."""
    found = []
    for node in body:
        found.append(node)
        found.extend(nodes_in(children(node)))
    return found


def numbered(body, at):
    """The list of the pairs (index, node) of nodes that stand one behind another, the first one's index being at."""
    found = []
    for node in body:
        found.append((at, node))
        at += len(nodes_in([node]))
    return found


def depths_in(body, depth):
    """The depths of these nodes, in the same order, those of the body having the depth."""
    found = []
    for node in body:
        found.append(depth)
        found.extend(depths_in(children(node), depth + 1))
    return found


def with_node_at(body, at, node):
    """The list of the nodes of a body with another one in the place of the one with the index."""
    out = []
    for old in body:
        many = len(nodes_in([old]))
        if at == 0:
            out.append(node)
        elif 0 < at < many:
            out.append(with_children(old, with_node_at(children(old), at - 1, node)))
        else:
            out.append(old)
        at = at - many
    return out


def parts_of(source):
    """The parts of a room: the functions, then the doors."""
    return source[3] + source[4]


def part_called(source, name):
    """The part of the room with this name, None if there is none or the value is no string."""
    if not isinstance(name, str):
        return None
    for part in parts_of(source):
        if part[0] == name:
            return part
    return None


def with_body(source, name, body):
    """The room with another body of the part with this name."""
    functions = [(*part[:-1], body) if part[0] == name else part for part in source[3]]
    doors = [(*part[:-1], body) if part[0] == name else part for part in source[4]]
    return (source[0], source[1], source[2], tuple(functions), tuple(doors))
