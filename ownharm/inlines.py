"""Inlining: a let of what a function gives becomes the function's own statements."""

from ownharm.changekinds import ZERO, has_room
from ownharm.kinds import all_unlike, good_name, is_tuple
from ownharm.partshape import local_names
from ownharm.syntax import children, nodes_in, part_called, with_children


def function_run(look, at):
    """The function whose run a let is made of and that may be inlined there; None if there is none."""
    node = look.nodes[at]
    if node[0] != "let" or node[2][0] != "run":
        return None
    function = part_called(look.source, node[2][1])
    body = function[2]
    gives = len([inner for inner in nodes_in(body) if inner[0] == "give"])
    if gives > 1 or (gives == 1 and body[-1][0] != "give"):
        return None
    return function


def renamed(node, table):
    """The node with other names of locals."""
    new = with_children(node, [renamed(inner, table) for inner in children(node)])
    if new[0] == "let":
        return ("let", table[new[1]], new[2])
    if new[0] == "local":
        return ("local", table[new[1]])
    return new


def are_new_names(look, names, many):
    """Whether any value is a tuple of so many unlike names that are no locals of the part."""
    if not is_tuple(names, many, many) or not all([good_name(name) for name in names]) or not all_unlike(names):
        return False
    known = local_names(look.part)
    return all([name not in known for name in names])


def inlined(look, at, names):
    """The body of the part behind an inlining, None if it cannot be done; names may be any value."""
    function = function_run(look, at)
    if function is None:
        return None
    own = local_names(function)
    if not are_new_names(look, names, len(own)):
        return None
    table = {name: names[k] for k, name in enumerate(own)}
    node = look.nodes[at]
    new = [("let", names[k], argument) for k, argument in enumerate(node[2][2])]
    given = ZERO
    for statement in function[2]:
        told = renamed(statement, table)
        # There is no give but a last one.
        if told[0] == "give":
            given = told[1]
        else:
            new.append(told)
    body = look.with_list(at, 1, [*new, ("let", node[1], given)])
    return body if has_room(body) else None


def fresh_names(look, many):
    """The first names of t0, t1, t2, .. that are no locals of the part, so many of them."""
    known = local_names(look.part)
    names = [f"t{k}" for k in range(many + len(known))]
    return tuple([name for name in names if name not in known][:many])
