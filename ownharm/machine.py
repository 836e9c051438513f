"""The machine that runs boards, whatever numbers stand in their sections."""

from ownharm.boardrun import begun_run
from ownharm.errors import BadAddress, BadEvents
from ownharm.kinds import is_number, is_tuple, is_whole
from ownharm.needs import need_number, need_room_number, need_steps
from ownharm.sections import need_board
from ownharm.sectionsteps import SectionWork

# One room, the only cell of which stops.
LEAST_BOARD = (1, ((),), (((0,), (0,)),))


class Machine:
    """The machine with a board, begun with a number; at is where it goes on, None if it has stopped."""

    def __init__(self, board, number):
        need_board(board)
        need_number(number)
        self._run = begun_run(board, number)
        # No property: the errors store an attribute of this name, too.
        self.at = self._run.place()

    @property
    def row(self):
        """The list of the crossings."""
        return list(self._run.shown)

    @property
    def steps(self):
        """How many steps were done."""
        return self._run.taken

    @property
    def state(self):
        """The state: running, deep, done or end."""
        return self._run.condition

    @property
    def registers(self):
        """The tuple of the ten registers."""
        return tuple(self._run.bank)

    @property
    def open_asks(self):
        """The list of the pairs (room, address to go on at), the last one answered first."""
        return list(self._run.asks)

    def go(self, steps):
        """Does so many steps more, fewer if it stops."""
        need_steps(steps)
        self._run.go(steps)
        self.at = self._run.place()

    def cells(self, room):
        """The tuple of the cells of a room's section as they are now."""
        return tuple(self._section(room).numbers)

    def put(self, room, address, number):
        """Exchanges a cell, whatever the state; this is no step."""
        numbers = self._section(room).numbers
        if not is_whole(address, 0, len(numbers) - 1):
            raise BadAddress("the value is no address of the section")
        need_number(number)
        numbers[address] = number

    def copy(self):
        """An independent machine at the same moment."""
        # Any board will do: nothing of it stays.
        other = Machine(LEAST_BOARD, 0)
        other._run = self._run.twin()
        other.at = self.at
        return other

    def moment(self):
        """The tuple (at, registers, open asks, cells of all rooms)."""
        cells = [tuple(work.numbers) for work in self._run.works]
        return (self.at, self.registers, tuple(self._run.asks), tuple(cells))

    def _section(self, room):
        """BadRoomNumber; the section of the room at work or waiting."""
        need_room_number(room, len(self._run.works))
        return self._run.works[room]


def machine_row(board, number, steps):
    """The row of the machine behind so many steps."""
    machine = Machine(board, number)
    machine.go(steps)
    return machine.row


def handed(board, number, steps):
    """The list of the pairs (crossing, registers at it) of the row behind so many steps."""
    need_board(board)
    need_number(number)
    need_steps(steps)
    run = begun_run(board, number)
    found = [(run.shown[0], tuple(run.bank))]
    left = steps
    while left > 0 and run.condition == "running":
        left -= run.advance(left)
        if len(run.shown) > len(found):
            found.append((run.shown[-1], tuple(run.bank)))
    return found


def are_registers(value):
    """Whether the value is a tuple of ten numbers."""
    return is_tuple(value, 10, 10) and all([is_number(one) for one in value])


def is_handed_event(value, doors, asks):
    """Whether any value is an event with registers of a section with so many doors and these open asks."""
    if is_tuple(value, 3, 3):
        return value[0] == "in" and is_whole(value[1], 0, doors - 1) and are_registers(value[2])
    if is_tuple(value, 2, 2):
        return value[0] == "got" and are_registers(value[1]) and len(asks) > 0
    return False


def section_acts(board, room, events, steps):
    """What one section does by itself: the list of the pairs (act, registers) behind the events."""
    need_board(board)
    need_room_number(room, len(board[2]))
    if not isinstance(events, (list, tuple)):
        raise BadEvents(None)
    need_steps(steps)
    work = SectionWork(board[2][room], board[1][room], [0] * 10)
    asks = []
    found = []
    for at, event in enumerate(events):
        if not is_handed_event(event, len(work.entries), asks):
            raise BadEvents(at)
        work.address = work.entries[event[1]] if event[0] == "in" else asks.pop()
        work.bank[:] = event[-1]
        act = work.advance(steps)[1]
        if act is None:
            found.append(None)
            return found
        found.append((act, tuple(work.bank)))
        if act[0] == "ends":
            return found
        if act[0] == "calls":
            asks.append(work.address)
    return found
