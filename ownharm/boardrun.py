"""The run of a board: sections at work one at a time, which share the registers."""

from ownharm.sectionsteps import SectionWork


def begun_run(board, number):
    """The run of a good board, begun with a number."""
    bank = [number] + [0] * 9
    works = [SectionWork(section, wires, bank) for section, wires in zip(board[2], board[1])]
    run = BoardRun(board[0], works, bank)
    run.shown.append(("start", number))
    run.enter(0, 0)
    return run


class BoardRun:
    """The run of a board: its sections at work, which share the registers in bank.

    shown is the list of the crossings, taken how many steps were done, condition the state, room the one at work,
    asks the list of the open asks (room, address to go on at).
    """

    def __init__(self, depth, works, bank):
        self.depth = depth
        self.works = works
        self.bank = bank
        self.asks = []
        self.shown = []
        self.taken = 0
        self.condition = "running"
        self.room = 0

    def enter(self, room, door):
        """Goes on in a room at the entry of a door."""
        self.room = room
        work = self.works[room]
        work.address = work.entries[door]

    def place(self):
        """The pair (room, address) where it goes on; None if it has stopped."""
        if self.condition != "running":
            return None
        return (self.room, self.works[self.room].address)

    def advance(self, steps):
        """Does so many steps, none behind the next crossing; how many were done. It must be running."""
        done, act = self.works[self.room].advance(steps)
        self.taken += done
        if act is not None:
            self.meet(act)
        return done

    def go(self, steps):
        """Does so many steps, fewer if it stops."""
        left = steps
        while left > 0 and self.condition == "running":
            left -= self.advance(left)

    def meet(self, act):
        """What an act of the section at work means to the run."""
        if act[0] == "calls":
            self.call(act[1], act[2], act[3])
        elif act[0] == "gives":
            self.give(act[1])
        else:
            self.finish("end", ("end", self.room))

    def finish(self, condition, crossing):
        """The run stops with a last crossing."""
        self.shown.append(crossing)
        self.condition = condition

    def call(self, asked, door, number):
        """The section at work asks a door along a wire."""
        if len(self.asks) == self.depth:
            self.finish("deep", ("deep", self.room, asked, door, number))
            return
        self.asks.append((self.room, self.works[self.room].address))
        self.shown.append(("call", self.room, asked, door, number))
        self.enter(asked, door)

    def give(self, number):
        """The section at work gives."""
        if not self.asks:
            self.finish("done", ("done", number))
            return
        asker, address = self.asks.pop()
        self.shown.append(("back", self.room, asker, number))
        self.room = asker
        self.works[asker].address = address

    def twin(self):
        """An independent run at the same moment."""
        bank = list(self.bank)
        other = BoardRun(self.depth, [work.twin(bank) for work in self.works], bank)
        other.asks = list(self.asks)
        other.shown = list(self.shown)
        other.taken = self.taken
        other.condition = self.condition
        other.room = self.room
        return other
