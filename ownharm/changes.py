"""Changes of rooms that keep their acts, beside all partners, up to their first undefined step."""

from ownharm.changekinds import PLAIN_KINDS, loadable
from ownharm.errors import BadChange
from ownharm.inlines import inlined
from ownharm.kinds import is_tuple, is_whole
from ownharm.needs import need_room
from ownharm.partlook import PartLook
from ownharm.rooms import need_place
from ownharm.storing import Storing
from ownharm.syntax import nodes_in, part_called, parts_of, with_body


def stores_of(source, place):
    """The tuple of the blocks, in the room's order, that may be stored to while the node at the place is done."""
    need_room(source)
    node = nodes_in(need_place(source, place))[place[1]]
    found = Storing(source).stored_by([node])
    return tuple([block[0] for block in source[2] if block[0] in found])


def body_behind(look, change):
    """The body of the part behind a change of it, None if it cannot be done; only the items behind at are unsure."""
    word, at = change[0], change[2]
    if len(change) == 3 and word in PLAIN_KINDS:
        action = PLAIN_KINDS[word]
        return action(look, at)
    if len(change) == 4 and word == "load":
        name = change[3]
        if isinstance(name, str) and name in loadable(look, Storing(look.source), at):
            return look.with_node(at, ("local", name))
    if len(change) == 4 and word == "inline":
        return inlined(look, at, change[3])
    return None


def room_behind(source, change):
    """The room behind a change, None if any value is no change that can be done."""
    if not is_tuple(change, 3, 4) or not isinstance(change[0], str):
        return None
    part = part_called(source, change[1])
    if part is None or not is_whole(change[2], 0, len(nodes_in(part[-1])) - 1):
        return None
    body = body_behind(PartLook(source, part), change)
    return None if body is None else with_body(source, part[0], body)


def is_change(source, thing):
    """Whether any value is a change of the room that can be done."""
    need_room(source)
    return room_behind(source, thing) is not None


def changed(source, change):
    """The room behind a change."""
    need_room(source)
    new = room_behind(source, change)
    if new is None:
        raise BadChange(None)
    return new


def changes_of(source):
    """The list of all changes that can be done but inlinings: by kinds, by parts, by nodes, by names."""
    need_room(source)
    looks = [PartLook(source, part) for part in parts_of(source)]
    found = []
    for word in PLAIN_KINDS:
        action = PLAIN_KINDS[word]
        for look in looks:
            ats = [at for at in range(len(look.nodes)) if action(look, at) is not None]
            found.extend([(word, look.part[0], at) for at in ats])
    storing = Storing(source)
    for look in looks:
        for at in range(len(look.nodes)):
            names = sorted(loadable(look, storing, at))
            found.extend([("load", look.part[0], at, name) for name in names])
    return found
