"""The run of a program: rooms at work one at a time, put together."""

from ownharm.roomalone import RoomAlone
from ownharm.rooms import all_wires


def rooms_alone(program):
    """The list of the rooms of a good program, each by itself; nothing has been run in them."""
    return [RoomAlone(source, wires) for source, wires in zip(program[1], all_wires(program))]


class ProgramRun:
    """The run of a good program with a number.

    rooms is the list of its rooms, in which nothing has been run; they are those of this run alone. shown is the
    list of the crossings, taken how many steps were done, condition the state, harm the pair (room, place) of an
    undefined step, inside the room in control, askers the list of those whose asks are open.
    """

    def __init__(self, depth, rooms, number):
        self.depth = depth
        self.rooms = rooms
        self.askers = []
        self.shown = [("start", number)]
        self.taken = 0
        self.condition = "running"
        self.harm = None
        self.inside = 0
        self.rooms[0].begin(0, number)

    def go(self, steps, length):
        """Tries so many steps, none once so many crossings are shown, if a length is told."""
        left = steps
        while left > 0 and self.condition == "running" and (length is None or len(self.shown) < length):
            done, act = self.rooms[self.inside].advance(left)
            self.taken += done
            left -= done
            if act is not None:
                self.meet(act)

    def meet(self, act):
        """What an act of the room in control, or its undefined step, means to the run."""
        room = self.inside
        if act[0] == "calls":
            self.call(room, act[1], act[2], act[3])
        elif act[0] == "gives":
            self.give(room, act[1])
        elif act[0] == "ends":
            self.finish("end", ("end", room))
        else:
            self.condition = "undefined"
            self.harm = (room, (act[1], act[2]))

    def finish(self, condition, crossing):
        """The run ends with a last crossing."""
        self.shown.append(crossing)
        self.condition = condition
        self.inside = None

    def call(self, room, asked, door, number):
        """A room asks a door of another one."""
        if len(self.askers) == self.depth:
            self.finish("deep", ("deep", room, asked, door, number))
            return
        self.askers.append(room)
        self.shown.append(("call", room, asked, door, number))
        self.inside = asked
        self.rooms[asked].begin(door, number)

    def give(self, room, number):
        """A running of a door of a room gives."""
        if not self.askers:
            self.finish("done", ("done", number))
            return
        asker = self.askers.pop()
        self.shown.append(("back", room, asker, number))
        self.inside = asker
        self.rooms[asker].answer(number)
