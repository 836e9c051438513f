"""The meaning of programs in steps: runs and their rows."""

from ownharm.errors import BadLength
from ownharm.needs import need_number, need_program, need_room_number, need_steps
from ownharm.roomalone import RoomAlone, starting_state
from ownharm.rooms import room_wires


class Run:
    """A run of a program with a number, step by step."""

    def __init__(self, program, number):
        need_program(program)
        need_number(number)
        self._depth = program[0]
        self._sources = program[1]
        self._rooms = [RoomAlone(source, room_wires(program, source), starting_state(source))
                       for source in program[1]]
        self._askers = []
        self._row = [("start", number)]
        self._steps = 0
        self._state = "running"
        self._fault = None
        self._control = 0
        self._rooms[0].begin(0, number)

    @property
    def row(self):
        """The list of the crossings."""
        return list(self._row)

    @property
    def steps(self):
        """How many steps were done."""
        return self._steps

    @property
    def state(self):
        """The state: running, undefined, deep, done or end."""
        return self._state

    @property
    def fault(self):
        """The pair (room, place) of the undefined step that was tried, or None."""
        return self._fault

    @property
    def control(self):
        """The number of the room in which control lies; None behind the end of the run."""
        return self._control

    def cells(self, room):
        """The dict from the names of the blocks of a room to the lists of their values."""
        need_room_number(room, len(self._sources))
        memory = self._rooms[room].memory
        return {block[0]: list(memory[at]) for at, block in enumerate(self._sources[room][2])}

    def go(self, steps):
        """Tries so many steps, none behind the end or an undefined step."""
        need_steps(steps)
        self._try(steps, None)

    def reach(self, length, steps):
        """Tries so many steps, none once the row has so many crossings; whether it has."""
        if not isinstance(length, int) or isinstance(length, bool) or length < 0:
            raise BadLength("the value is no whole from 0 on")
        need_steps(steps)
        self._try(steps, length)
        return len(self._row) >= length

    def _try(self, steps, length):
        """Tries so many steps, none once the row has the length, if one is told."""
        left = steps
        while left > 0 and self._state == "running" and (length is None or len(self._row) < length):
            done, act = self._rooms[self._control].advance(left)
            self._steps += done
            left -= done
            if act is not None:
                self._meet(act)

    def _meet(self, act):
        """What an act of the room in control, or its undefined step, means to the run."""
        room = self._control
        if act[0] == "calls":
            self._call(room, act[1], act[2], act[3])
        elif act[0] == "gives":
            self._give(room, act[1])
        elif act[0] == "ends":
            self._finish("end", ("end", room))
        else:
            self._state = "undefined"
            self._fault = (room, (act[1], act[2]))

    def _finish(self, state, crossing):
        """The run ends with a last crossing."""
        self._row.append(crossing)
        self._state = state
        self._control = None

    def _call(self, room, asked, door, number):
        """A room asks a door of another one."""
        if len(self._askers) == self._depth:
            self._finish("deep", ("deep", room, asked, door, number))
            return
        self._askers.append(room)
        self._row.append(("call", room, asked, door, number))
        self._control = asked
        self._rooms[asked].begin(door, number)

    def _give(self, room, number):
        """A running of a door of a room gives."""
        if not self._askers:
            self._finish("done", ("done", number))
            return
        asker = self._askers.pop()
        self._row.append(("back", room, asker, number))
        self._control = asker
        self._rooms[asker].answer(number)


def source_row(program, number, steps):
    """The row of a run behind so many steps."""
    run = Run(program, number)
    run.go(steps)
    return run.row
