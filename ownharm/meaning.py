"""The meaning of programs in steps: runs and their rows."""

from ownharm.errors import BadLength
from ownharm.needs import need_number, need_program, need_room_number, need_steps
from ownharm.programrun import ProgramRun, rooms_alone


class Run:
    """A run of a program with a number, step by step."""

    def __init__(self, program, number):
        need_program(program)
        need_number(number)
        self._run = ProgramRun(program[0], rooms_alone(program), number)

    @property
    def row(self):
        """The list of the crossings."""
        return list(self._run.shown)

    @property
    def steps(self):
        """How many steps were done."""
        return self._run.taken

    @property
    def state(self):
        """The state: running, undefined, deep, done or end."""
        return self._run.condition

    @property
    def fault(self):
        """The pair (room, place) of the undefined step that was tried, or None."""
        return self._run.harm

    @property
    def control(self):
        """The number of the room in which control lies; None behind the end of the run."""
        return self._run.inside

    def cells(self, room):
        """The dict from the names of the blocks of a room to the lists of their values."""
        need_room_number(room, len(self._run.rooms))
        alone = self._run.rooms[room]
        return {block[0]: list(alone.memory[at]) for at, block in enumerate(alone.source[2])}

    def go(self, steps):
        """Tries so many steps, none behind the end or an undefined step."""
        need_steps(steps)
        self._run.go(steps, None)

    def reach(self, length, steps):
        """Tries so many steps, none once the row has so many crossings; whether it has."""
        if not isinstance(length, int) or isinstance(length, bool) or length < 0:
            raise BadLength("the value is no whole from 0 on")
        need_steps(steps)
        self._run.go(steps, length)
        return len(self._run.shown) >= length


def source_row(program, number, steps):
    """The row of a run behind so many steps."""
    run = Run(program, number)
    run.go(steps)
    return run.row
