"""A room at work by itself: its cells, its runnings that wait, and the one at work."""

from ownharm.kinds import ENDS, MODULUS
from ownharm.partsteps import part_code
from ownharm.syntax import part_called

# The steps that leave a running.
LEAVING = ("give", "end", "run", "ask", "stop")


class Frame:
    """One running of a part: where it goes on, its locals, and the values that wait for others."""

    def __init__(self, code, position, slots, held):
        self.code = code
        self.position = position
        self.slots = slots
        self.held = held

    def advance(self, memory, left):
        """Does so many steps up to one that leaves the running or is undefined: how many are left, that one or None."""
        ops, slots, held, position = self.code.ops, self.slots, self.held, self.position
        for many in range(left, 0, -1):
            op = ops[position]
            word, _, behind, one, _ = op
            if word == "local":
                if slots[one] is None:
                    break
                held.append(slots[one])
            elif word == "number":
                held.append(one)
            elif word == "pair":
                other = held.pop()
                if one == "plus":
                    held[-1] = (held[-1] + other) % MODULUS
                elif one == "less":
                    held[-1] = 1 if held[-1] < other else 0
                elif other != 0 or one != "rest":
                    held[-1] = paired(one, held[-1], other)
                else:
                    break
            elif word == "cell":
                if held[-1] >= len(memory[one]) or memory[one][held[-1]] is None:
                    break
                held[-1] = memory[one][held[-1]]
            elif word == "let":
                slots[one] = held.pop()
            elif word == "test":
                behind = behind if held.pop() != 0 else one
            elif word == "store" and held[-2] < len(memory[one]):
                memory[one][held[-2]] = held[-1]
                held.clear()
            else:
                break
            position = behind
        else:
            many, op = 0, None
        self.position = position
        return (many, op)


def paired(sign, one, other):
    """What one of the other signs makes of two numbers; a rest is by no 0."""
    if sign == "same":
        return 1 if one == other else 0
    if sign == "minus":
        return (one - other) % MODULUS
    if sign == "times":
        return (one * other) % MODULUS
    return one % other


def starting_state(source):
    """The state of a room in which nothing has been run."""
    return (tuple([block[1] for block in source[2]]), ())


class RoomAlone:
    """A room with its wires (the numbers of its imports, in their order); first nothing has been run in it."""

    def __init__(self, source, wires):
        self.source = source
        self.wires = {pair: wires[at] for at, pair in enumerate(source[1])}
        self.codes = {}
        self.restart()

    def restart(self):
        """Nothing has been run in the room."""
        self.enter_state(starting_state(self.source))

    def enter_state(self, state):
        """The room is in this state."""
        self.memory = [list(cells) for cells in state[0]]
        self.waits = list(state[1])
        self.frames = []

    def moment(self):
        """The state now; the running at work is no part of it."""
        return (tuple([tuple(cells) for cells in self.memory]), tuple(self.waits))

    def code_of(self, name):
        """The code of a part, made when it is first needed."""
        if name not in self.codes:
            self.codes[name] = part_code(self.source, part_called(self.source, name), self.wires)
        return self.codes[name]

    def enter(self, name, arguments):
        """Begins a running of a part, the params being set to the arguments."""
        code = self.code_of(name)
        slots = arguments + [None] * (code.many - len(arguments))
        self.frames.append(Frame(code, 0, slots, []))

    def leave(self, number):
        """Ends the running at work, which gives the number; the act if it is one of a door."""
        self.frames.pop()
        if not self.frames:
            return ("gives", number)
        self.frames[-1].held.append(number)
        return None

    def wait(self):
        """The running of the door at work, with those of functions in it, waits for an answer."""
        kept = [(frame.code.name, frame.position, tuple(frame.slots), tuple(frame.held)) for frame in self.frames]
        self.waits.append(tuple(kept))
        self.frames = []

    def begin(self, door, number):
        """A number comes in at the door with this number."""
        told = self.source[4][door]
        self.enter(told[0], [number % told[2]])

    def answer(self, number):
        """The last running that waits gets its answer and goes on."""
        kept = self.waits.pop()
        self.frames = [Frame(self.code_of(name), position, list(slots), list(held))
                       for name, position, slots, held in kept]
        self.frames[-1].held.append(number)

    def cross(self, frame, op):
        """Does the step that leaves the running at work; the act that it is, or None."""
        word, _, behind, one, two = op
        if word == "give":
            return self.leave(frame.held.pop())
        if word == "end":
            return self.leave(0)
        if word == "stop":
            return ENDS
        frame.position = behind
        if word == "ask":
            number = frame.held.pop()
            self.wait()
            return ("calls", one, two, number)
        # A run: what the function gives will be held.
        first = len(frame.held) - two
        arguments = frame.held[first:]
        del frame.held[first:]
        self.enter(one, arguments)
        return None

    def advance(self, steps):
        """Tries so many steps, up to an act: the pair of how many were done and the act, or None.

        An undefined step ends it, too: ("undefined", part, at); that one is not done.
        """
        left = steps
        while left > 0:
            frame = self.frames[-1]
            left, op = frame.advance(self.memory, left)
            if op is not None:
                if op[0] not in LEAVING:
                    return (steps - left, ("undefined", frame.code.name, op[1]))
                left -= 1
                act = self.cross(frame, op)
                if act is not None:
                    return (steps - left, act)
        return (steps, None)
