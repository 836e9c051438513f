"""The turns of a small room: what it does behind an event, whatever else is open below."""

from ownharm.alone import outcome
from ownharm.errors import TooLong, TooMany
from ownharm.kinds import ENDS
from ownharm.livelocals import live_locals, without_dead
from ownharm.roomalone import RoomAlone, starting_state

MOST_STEPS = 2000
MOST_CONTENTS = 200


class Ledger:
    """Things that are numbered in the order in which they are first met."""

    def __init__(self, most):
        self.most = most
        self.things = []
        self.numbers = {}

    def number_for(self, thing):
        """The number of a thing, a new one if it has not been met yet; TooMany if there are more than the most."""
        if thing not in self.numbers:
            if len(self.things) == self.most:
                raise TooMany(self.most)
            self.numbers[thing] = len(self.things)
            self.things.append(thing)
        return self.numbers[thing]


def mate_wires(small):
    """The wires of a small room beside its partner, room 0, whose doors begin with the imported ones."""
    return [(0, door) for door in range(len(small[1]))]


class RoomTurns:
    """What a small room does, event by event; contents and runnings that wait are told by numbers.

    A turn hangs on the contents and on the last running that waits alone, and of the number that comes in on its
    rest alone: by the size of the door, or by the number behind the ask that is answered.
    """

    def __init__(self, small):
        self.small = small
        self.alone = RoomAlone(small, mate_wires(small))
        self.memories = Ledger(MOST_CONTENTS)
        self.runnings = Ledger(None)
        self.known = {}
        self.live = {}
        self.memories.number_for(starting_state(small)[0])

    def heads(self, running):
        """The list of the events while this running waits last, as pairs: the event but for its number, and by what
        the number is rested; without a running those with which a new one begins."""
        if running is None:
            return [(("in", at), door[2]) for at, door in enumerate(self.small[4])]
        name, position, _, _ = self.runnings.things[running][-1]
        # The step behind the ask is the number of its rest.
        return [(("got",), self.alone.code_of(name).ops[position][3])]

    def turn(self, running, memory, head, rest):
        """What the room does behind an event: its act or undefined step, the running that waits then, the contents."""
        key = (running, memory, head, rest)
        if key not in self.known:
            self.known[key] = self.done_turn(running, memory, (*head, rest))
        return self.known[key]

    def done_turn(self, running, memory, event):
        """The same, done step by step; TooLong if there are too many."""
        alone = self.alone
        alone.memory = [list(cells) for cells in self.memories.things[memory]]
        alone.waits = [] if running is None else [self.runnings.things[running]]
        alone.frames = []
        act = outcome(alone, event, MOST_STEPS)
        if act is None:
            raise TooLong("the room does nothing in 2000 steps")
        if act == ENDS or act[0] == "undefined":
            return (act, None, None)
        cells, waits = alone.moment()
        waiting = self.runnings.number_for(self.bare(waits[-1])) if act[0] == "calls" else None
        return (act, waiting, self.memories.number_for(cells))

    def bare(self, running):
        """A running that waits, without the locals that can matter no more: so more runnings are alike."""
        frames = []
        for frame in running:
            name = frame[0]
            if name not in self.live:
                self.live[name] = live_locals(self.alone.code_of(name))
            frames.append(without_dead(frame, self.live[name]))
        return tuple(frames)
