"""The changes of rooms as the document tells them, written apart from the package: parts as nested tuples and ways
into them. A way is a tuple of indices; the way of a statement without its last index is that of its list."""

from ownharm.rooms import is_room

OPERATORS = ("plus", "minus", "times", "rest", "less", "same")
VALUES = {"let": (2,), "store": (2, 3), "if": (1,), "while": (1,), "give": (1,), "cell": (2,), "ask": (3,)}
VALUES.update({word: (1, 2) for word in OPERATORS})
LISTS = {"if": (2, 3), "while": (2,), "run": (2,)}
ZERO, ONE = ("number", 0), ("number", 1)


def node_ways(node, way):
    yield way, node
    for at in range(1, len(node)):
        if at in VALUES.get(node[0], ()):
            yield from node_ways(node[at], way + (at,))
        elif at in LISTS.get(node[0], ()):
            yield from list_ways(node[at], way + (at,))


def list_ways(body, way=()):
    for at, node in enumerate(body):
        yield from node_ways(node, way + (at,))


def inside(nodes):
    return [node for _, node in list_ways(nodes)]


def got(tree, way):
    for at in way:
        tree = tree[at]
    return tree


def put(tree, way, new):
    if not way:
        return new
    return tree[:way[0]] + (put(tree[way[0]], way[1:], new),) + tree[way[0] + 1:]


def spliced(body, way, many, new):
    """Others in the place of so many statements, from the one at the way on."""
    own = got(body, way[:-1])
    return put(body, way[:-1], own[:way[-1]] + tuple(new) + own[way[-1] + many:])


def parts(source):
    return {part[0]: part for part in source[3] + source[4]}


def reached(source, nodes):
    found = inside(nodes)
    for node in list(found):
        if node[0] == "run":
            found += reached(source, parts(source)[node[1]][-1])
    return found


def may_store(source, nodes):
    found = reached(source, nodes)
    if any(node[0] == "ask" for node in found):
        for door in source[4]:
            found = found + reached(source, door[3])
    return {node[1] for node in found if node[0] == "store"}


def quiet(node):
    return not any(inner[0] in ("run", "ask") for inner in inside((node,)))


def is_statement(node):
    return node[0] in ("let", "store", "if", "while", "give", "stop")


def locals_of(part):
    names = list(part[1]) if len(part) == 3 else [part[1]]
    for node in inside(part[-1]):
        if node[0] in ("let", "local") and node[1] not in names:
            names.append(node[1])
    return names


def behind_plain(kind, body, way, node):
    """The body behind a change of one of the first eight kinds, or None."""
    word = node[0]
    own = got(body, way[:-1]) if is_statement(node) else ()
    after = own[way[-1] + 1:] if is_statement(node) else ()
    if kind == "fold" and word in OPERATORS and node[1][0] == node[2][0] == "number":
        one, other = node[1][1], node[2][1]
        if word == "rest" and other == 0:
            return None
        value = {"plus": one + other, "minus": one - other, "times": one * other, "rest": one % (other or 1),
                 "less": int(one < other), "same": int(one == other)}[word] % 10000
        return put(body, way, ("number", value))
    if kind == "unit" and word in ("plus", "minus", "times"):
        unit = ONE if word == "times" else ZERO
        if node[2] == unit:
            return put(body, way, node[1])
        if node[1] == unit and word != "minus":
            return put(body, way, node[2])
    if kind == "branch" and word == "if" and node[1][0] == "number":
        return spliced(body, way, 1, node[2] if node[1][1] else node[3])
    if kind == "branch" and word == "while" and node[1] == ZERO:
        return spliced(body, way, 1, ())
    if kind == "cut" and word in ("give", "stop") and after:
        return spliced(body, way, 1 + len(after), (node,))
    if kind == "drop" and word == "let" and quiet(node) and ("local", node[1]) not in inside(body):
        return spliced(body, way, 1, ())
    if kind == "over" and word == "store" and after and after[0][0] == "store":
        if node[1] == after[0][1] and node[2][0] == after[0][2][0] == "number" and node[2][1] == after[0][2][1]:
            if quiet(node[3]) and quiet(after[0][3]):
                if not any(inner[0] == "cell" and inner[1] == node[1] for inner in inside((after[0][3],))):
                    return spliced(body, way, 1, ())
    if kind == "swap" and word in ("let", "store") and after and after[0][0] in ("let", "store"):
        if quiet(node) and quiet(after[0]) and not (word == after[0][0] and node[1] == after[0][1]):
            for one, other in [(node, after[0]), (after[0], node)]:
                for inner in inside((one,)):
                    if (inner[0], other[0]) in (("local", "let"), ("cell", "store")) and inner[1] == other[1]:
                        return None
            return spliced(body, way, 2, (after[0], node))
    if kind == "peel" and word == "while":
        return put(body, way, ("if", node[1], node[2] + (node,), ()))
    return None


def list_places(body, way=()):
    """The ways of all lists."""
    yield way
    for at, node in enumerate(got(body, way)):
        for inner in LISTS.get(node[0], ()):
            yield from list_places(body, way + (at, inner))


def loads(source, body, way, node):
    """The names with which the node can be loaded."""
    names = set()
    if node[0] != "cell" or node[2][0] != "number":
        return names
    for place in list_places(body):
        own = got(body, place)
        for j, holder in enumerate(own):
            if way[:len(place) + 1] != place + (j,):
                continue
            last = [holder] if holder[0] in ("if", "while") else [holder[at] for at in VALUES.get(holder[0], ())]
            for i in range(j):
                between = list(own[i + 1:j]) + last
                if own[i][0] == "let" and own[i][2] == node and node[1] not in may_store(source, between):
                    if not any(inner[0] == "let" and inner[1] == own[i][1] for inner in inside(between)):
                        names.add(own[i][1])
    return names


def with_part(source, name, body):
    """The room with another body of a part, None if that is none."""
    if body is None:
        return None
    new = source[:3] + tuple(tuple((*part[:-1], body) if part[0] == name else part for part in told) for told in source[3:])
    return new if is_room(new) else None


KINDS = ("fold", "unit", "branch", "cut", "drop", "over", "swap", "peel")


def all_changes(source):
    """The list of the pairs (change, room behind it) of all kinds but inline, in the order of the document."""
    found = []
    for kind in KINDS:
        for name, part in parts(source).items():
            for at, (way, node) in enumerate(list_ways(part[-1])):
                new = with_part(source, name, behind_plain(kind, part[-1], way, node))
                if new is not None:
                    found.append(((kind, name, at), new))
    for name, part in parts(source).items():
        for at, (way, node) in enumerate(list_ways(part[-1])):
            for local in sorted(loads(source, part[-1], way, node)):
                found.append((("load", name, at, local), with_part(source, name, put(part[-1], way, ("local", local)))))
    return found


def renamed(tree, table):
    """Statements and expressions with other locals."""
    if isinstance(tree, tuple) and tree and tree[0] == "let":
        return ("let", table[tree[1]], renamed(tree[2], table))
    if isinstance(tree, tuple) and len(tree) == 2 and tree[0] == "local":
        return ("local", table[tree[1]])
    return tuple(renamed(inner, table) for inner in tree) if isinstance(tree, tuple) else tree


def inlined(source, name, at, names):
    """The room behind an inlining with good names, or None."""
    body = parts(source)[name][-1]
    way, node = list(list_ways(body))[at]
    if node[0] != "let" or node[2][0] != "run":
        return None
    function = parts(source)[node[2][1]]
    inner = function[2]
    last = inner[-1] if inner and inner[-1][0] == "give" else None
    rest = inner[:-1] if last else inner
    if any(one[0] == "give" for one in inside(rest)):
        return None
    old = locals_of(function)
    if len(names) != len(old) or set(names) & set(locals_of(parts(source)[name])):
        return None
    table = dict(zip(old, names))
    new = [("let", table[param], value) for param, value in zip(function[1], node[2][2])]
    new += [renamed(statement, table) for statement in rest]
    new.append(("let", node[1], renamed(last[1], table) if last else ZERO))
    return with_part(source, name, spliced(body, way, 1, new))
