"""Papers: lists of changes one behind another, and some that make rooms shorter."""

from ownharm.changekinds import PLAIN_KINDS, SHORT_KINDS, loadable
from ownharm.changes import room_behind
from ownharm.errors import BadChange
from ownharm.inlines import fresh_names, function_run
from ownharm.needs import need_room
from ownharm.partlook import PartLook
from ownharm.partshape import local_names
from ownharm.rooms import need_place
from ownharm.storing import Storing
from ownharm.syntax import nodes_in, part_called, parts_of, with_body


def is_paper(source, thing):
    """Whether any value is a list of changes, the first one of the room, each other one of the room behind it."""
    need_room(source)
    if not isinstance(thing, (list, tuple)):
        return False
    room = source
    for change in thing:
        room = room_behind(room, change)
        if room is None:
            return False
    return True


def along(source, paper):
    """The list of the rooms on the way of a paper, the first one ahead of it."""
    need_room(source)
    if not isinstance(paper, (list, tuple)):
        raise BadChange(None)
    rooms = [source]
    for at, change in enumerate(paper):
        room = room_behind(rooms[-1], change)
        if room is None:
            raise BadChange(at)
        rooms.append(room)
    return rooms


def short_change(look):
    """The pair of a change that makes the part shorter and the body behind it; None if there is none."""
    for word in SHORT_KINDS:
        action = PLAIN_KINDS[word]
        for at in range(len(look.nodes)):
            body = action(look, at)
            if body is not None:
                return ((word, look.part[0], at), body)
    return None


def shorten(source, paper):
    """Makes the room as short as it comes; the changes are put behind the paper, the room behind them returned."""
    room = source
    for part in parts_of(source):
        name = part[0]
        told = short_change(PartLook(room, part))
        while told is not None:
            paper.append(told[0])
            room = with_body(room, name, told[1])
            told = short_change(PartLook(room, part_called(room, name)))
    return room


def shortened(source):
    """A paper of folds, units, branches, cuts, drops and overs behind which none of them can be done."""
    need_room(source)
    paper = []
    shorten(source, paper)
    return paper


def first_load(look, storing):
    """The first load that can be done in a part, None if there is none."""
    for at in range(len(look.nodes)):
        names = sorted(loadable(look, storing, at))
        if names:
            return ("load", look.part[0], at, names[0])
    return None


def loads(source):
    """A paper of loads behind which none can be done."""
    need_room(source)
    paper = []
    room = source
    # A load changes nothing of what is stored, run or asked.
    storing = Storing(source)
    for part in parts_of(source):
        look = PartLook(room, part)
        change = first_load(look, storing)
        while change is not None:
            paper.append(change)
            room = with_body(room, part[0], look.with_node(change[2], ("local", change[3])))
            look = PartLook(room, part_called(room, part[0]))
            change = first_load(look, storing)
    return paper


def inlining_at(source, part, at):
    """The inlining of a node of a part with the first names that are free; None if it cannot be done."""
    look = PartLook(source, part)
    function = function_run(look, at)
    if function is None:
        return None
    change = ("inline", part[0], at, fresh_names(look, len(local_names(function))))
    return None if room_behind(source, change) is None else change


def inlining(source, place):
    """The inlining of the node at the place with the first of t0, t1, .. that are free; None if there is none."""
    need_room(source)
    need_place(source, place)
    return inlining_at(source, part_called(source, place[0]), place[1])


def is_plain(function):
    """Whether a function has no while and runs nothing."""
    return all([node[0] != "while" and node[0] != "run" for node in nodes_in(function[2])])


def plain_inlining(source):
    """An inlining of a function without a while and without runs; None if none can be done."""
    for part in parts_of(source):
        for at, node in enumerate(nodes_in(part[-1])):
            if node[0] == "let" and node[2][0] == "run" and is_plain(part_called(source, node[2][1])):
                change = inlining_at(source, part, at)
                if change is not None:
                    return change
    return None


def improved(source):
    """A paper behind which the room cannot be made shorter, and nothing plain can be inlined."""
    need_room(source)
    paper = []
    room = shorten(source, paper)
    change = plain_inlining(room)
    while change is not None:
        paper.append(change)
        # Each inlining of what runs nothing takes a run away, so this comes to an end.
        room = shorten(room_behind(room, change), paper)
        change = plain_inlining(room)
    return paper
