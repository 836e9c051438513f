"""A room at work by itself: its cells, its runnings that wait, and the one at work."""

from ownharm.partsteps import part_code
from ownharm.stepping import ACTIONS
from ownharm.syntax import part_called


class Frame:
    """One running of a part: where it goes on, its locals, and the values that wait for others."""

    def __init__(self, code, position, slots, held):
        self.code = code
        self.position = position
        self.slots = slots
        self.held = held


def starting_state(source):
    """The state of a room in which nothing has been run."""
    return (tuple([block[1] for block in source[2]]), ())


class RoomAlone:
    """A room with its wires (the numbers of its imports, in their order), from a state on."""

    def __init__(self, source, wires, state):
        self.source = source
        self.wires = {pair: wires[at] for at, pair in enumerate(source[1])}
        self.codes = {}
        self.memory = [list(cells) for cells in state[0]]
        self.waits = list(state[1])
        self.frames = []

    def moment(self):
        """The state now; the running at work is no part of it."""
        return (tuple([tuple(cells) for cells in self.memory]), tuple(self.waits))

    def code_of(self, name):
        """The code of a part, made when it is first needed."""
        if name not in self.codes:
            self.codes[name] = part_code(self.source, part_called(self.source, name), self.wires)
        return self.codes[name]

    def enter(self, name, arguments):
        """Begins a running of a part, the params being set to the arguments."""
        code = self.code_of(name)
        slots = arguments + [None] * (code.many - len(arguments))
        self.frames.append(Frame(code, 0, slots, []))

    def leave(self, number):
        """Ends the running at work, which gives the number; the act if it is one of a door."""
        self.frames.pop()
        if not self.frames:
            return ("gives", number)
        self.frames[-1].held.append(number)
        return None

    def wait(self):
        """The running of the door at work, with those of functions in it, waits for an answer."""
        kept = [(frame.code.name, frame.position, tuple(frame.slots), tuple(frame.held)) for frame in self.frames]
        self.waits.append(tuple(kept))
        self.frames = []

    def begin(self, door, number):
        """A number comes in at the door with this number."""
        told = self.source[4][door]
        self.enter(told[0], [number % told[2]])

    def answer(self, number):
        """The last running that waits gets its answer and goes on."""
        kept = self.waits.pop()
        self.frames = [Frame(self.code_of(name), position, list(slots), list(held))
                       for name, position, slots, held in kept]
        self.frames[-1].held.append(number)

    def advance(self, steps):
        """Tries so many steps, up to an act: the pair of how many were done and the act, or None.

        An undefined step ends it, too: ("undefined", part, at); that one is not done.
        """
        for done in range(steps):
            frame = self.frames[-1]
            op = frame.code.ops[frame.position]
            action = ACTIONS[op[0]]
            act = action(self, frame, op)
            if act is not None:
                return (done if act[0] == "undefined" else done + 1, act)
        return (steps, None)
