"""Rows of crossings, the faces that they fit, and the views of the rooms in them."""

from ownharm.errors import BadFace, BadOrder, BadRow, BadViews, Unfit
from ownharm.kinds import ENDS, MOST_ROOMS, all_unlike, is_whole
from ownharm.needs import need_room_number
from ownharm.rowcheck import good_face, good_row, good_view, walked


def is_row(value):
    """Whether any value is a row."""
    return good_row(value)


def is_face(value):
    """Whether any value is a face."""
    return good_face(value)


def is_view(value):
    """Whether any value is a view."""
    return good_view(value)


def need_row(row):
    """BadRow for what is no row."""
    if not good_row(row):
        raise BadRow("the value is no row")


def need_face(face):
    """BadFace for what is no face."""
    if not good_face(face):
        raise BadFace("the value is no face")


def control_of(row):
    """The room in control behind the row, None behind a last crossing."""
    need_row(row)
    walk = walked(row)
    return None if walk.over else walk.inside


def open_of(row):
    """The list of the open asks behind the row as pairs (from, to), the elder ones first."""
    need_row(row)
    return walked(row).asks


def fits_in(row, face):
    """Whether a good row is one of rooms with this good face."""
    depth, wires, _ = face
    many = 0
    for crossing in row:
        word = crossing[0]
        if word == "call" or word == "deep":
            # Whoever is in control is a room of the face, for the wires lead to such rooms alone.
            if (crossing[2], crossing[3]) not in wires[crossing[1]] or (many == depth) != (word == "deep"):
                return False
            many += 1
        elif word == "back":
            many -= 1
    return True


def fits(row, face):
    """Whether the row is one of rooms with this face."""
    need_row(row)
    need_face(face)
    return fits_in(row, face)


def views_in(row):
    """The list of the views of all rooms in a good row, for as many rooms as there may be."""
    views = [[] for _ in range(MOST_ROOMS)]
    for crossing in row:
        word = crossing[0]
        if word == "call":
            _, asker, asked, door, number = crossing
            views[asker].append(("calls", asked, door, number))
            views[asked].append(("in", door, number))
        elif word == "back":
            _, giver, asker, number = crossing
            views[giver].append(("gives", number))
            views[asker].append(("got", number))
        elif word == "start":
            views[0].append(("in", 0, crossing[1]))
        elif word == "done":
            views[0].append(("gives", crossing[1]))
        elif word == "deep":
            views[crossing[1]].append(("calls", *crossing[2:]))
        else:
            views[crossing[1]].append(ENDS)
    return views


def view_of(row, room):
    """The view of a room in a row."""
    need_row(row)
    need_room_number(room, MOST_ROOMS)
    return views_in(row)[room]


class Joining:
    """Views while they are put together; asks is the list of the rooms whose asks are open."""

    def __init__(self, face, views):
        self.depth = face[0]
        self.wires = face[1]
        self.views = views
        self.counts = [0] * len(views)
        self.asks = []
        self.joint = []

    def next_item(self, room):
        """The next item of the view of a room, None if there is none."""
        view = self.views[room]
        return view[self.counts[room]] if self.counts[room] < len(view) else None

    def need_item(self, room, item):
        """Reads the next item of the view of a room: Unfit unless it is this one."""
        if self.next_item(room) != item:
            raise Unfit(room, self.counts[room])
        self.counts[room] += 1

    def join(self):
        """Puts the views together, from the first crossing to where the row ends."""
        first = self.next_item(0)
        # The first item of a view is an "in".
        if first is None or first[1] != 0:
            raise Unfit(0, 0)
        self.counts[0] = 1
        self.joint.append(("start", first[2]))
        control = 0
        while control is not None:
            control = self.join_act(control)
        for room, view in enumerate(self.views):
            if self.counts[room] < len(view):
                raise Unfit(room, self.counts[room])

    def join_act(self, room):
        """Reads the next act of the room in control; the room in control behind it, None if the row ends."""
        act = self.next_item(room)
        if act is None:
            return None
        if act[0] == "calls":
            return self.join_call(room, act)
        self.counts[room] += 1
        if act[0] == "ends":
            self.joint.append(("end", room))
            return None
        if not self.asks:
            self.joint.append(("done", act[1]))
            return None
        asker = self.asks.pop()
        self.need_item(asker, ("got", act[1]))
        self.joint.append(("back", room, asker, act[1]))
        return asker

    def join_call(self, room, act):
        """Reads an ask of the room in control."""
        _, to, door, number = act
        if (to, door) not in self.wires[room]:
            raise Unfit(room, self.counts[room])
        self.counts[room] += 1
        if len(self.asks) == self.depth:
            self.joint.append(("deep", room, to, door, number))
            return None
        self.need_item(to, ("in", door, number))
        self.asks.append(room)
        self.joint.append(("call", room, to, door, number))
        return to


def joined(face, views):
    """The row that has just these views."""
    need_face(face)
    if not isinstance(views, (list, tuple)) or len(views) != len(face[2]):
        raise BadViews("the value is no list of as many views as the face has rooms")
    if not all([good_view(view) for view in views]):
        raise BadViews("one of the values is no view")
    joining = Joining(face, views)
    joining.join()
    return joining.joint


def good_order(order):
    """Whether any value is a list of unlike numbers of rooms, the first one 0."""
    if not isinstance(order, (list, tuple)) or not 1 <= len(order) <= MOST_ROOMS:
        return False
    return all([is_whole(one, 0, MOST_ROOMS - 1) for one in order]) and order[0] == 0 and all_unlike(order)


# By the word of a crossing: which of its items are rooms.
ROOM_ITEMS = {"start": (), "call": (1, 2), "back": (1, 2), "deep": (1, 2), "done": (), "end": (1,)}


def rooms_in(row):
    """The list of the rooms in a row, each as often as it stands there, room 0 among them."""
    return [0] + [crossing[at] for crossing in row for at in ROOM_ITEMS[crossing[0]]]


def renumbered(row, order):
    """The row in which room k is room order[k]."""
    need_row(row)
    if not good_order(order) or len(order) <= max(rooms_in(row)):
        raise BadOrder("the value is no order of the rooms of the row")
    found = []
    for crossing in row:
        at_rooms = ROOM_ITEMS[crossing[0]]
        found.append(tuple([order[item] if at in at_rooms else item for at, item in enumerate(crossing)]))
    return found


def renumbered_face(face, order):
    """The face in which room k is room order[k]."""
    need_face(face)
    depth, wires, doors = face
    if not good_order(order) or len(order) != len(doors) or max(order) != len(doors) - 1:
        raise BadOrder("the value is no order of the rooms of the face")
    # The room that each new one was.
    old = [list(order).index(new) for new in range(len(doors))]
    new_wires = [tuple([(order[room], door) for room, door in wires[one]]) for one in old]
    return (depth, tuple(new_wires), tuple([doors[one] for one in old]))
