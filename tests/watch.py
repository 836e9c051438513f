"""Watches a machine step by step beside the compiled rooms of a program, each one alone ([36] to [41])."""

from ownharm.boards import board_of
from ownharm.compiling import layout, places_of
from ownharm.machine import Machine
from plainroom import PlainRoom


class WatchedRoom:
    """A compiled room that is sound up to now, with the room alone beside it."""

    def __init__(self, program, room):
        self.alone = PlainRoom(program, room)
        self.places = places_of(program, room)
        self.addresses = layout(program, room)
        self.sound = True
        self.done = 0
        self.others = 0


class Watch:
    """The machine on the board of a program with foreign sections; every promise is looked at on the way."""

    def __init__(self, case, program, foreign, number, depth=None):
        board = board_of(program, foreign)
        if depth is not None:
            board = (depth, *board[1:])
        self.case = case
        self.machine = Machine(board, number)
        self.rooms = {room: WatchedRoom(program, room) for room in range(len(program[1])) if room not in foreign}
        self.faults = []
        self.askers = []
        self.come_in(0, ("in", 0, number))
        self.look_at_memory()

    def go(self, steps):
        for _ in range(steps):
            if self.machine.state != "running":
                return
            self.step()

    def come_in(self, room, event):
        if room in self.rooms and self.rooms[room].sound:
            watched = self.rooms[room]
            watched.alone.come_in(event)
            watched.others = 0

    def step(self):
        machine = self.machine
        room, address = machine.at
        shown = len(machine.row)
        watched = self.rooms.get(room)
        act = None
        sound = watched is not None and watched.sound
        if sound:
            self.case.assertLess(address, len(watched.places))
            place = watched.places[address]
            if place is None:
                watched.others += 1
                self.case.assertLessEqual(watched.others, 100)
            else:
                told, about = watched.alone.about
                self.case.assertEqual(place, about)
                watched.others = 0
                if told == "undefined":
                    watched.sound = sound = False
                    self.faults.append((room, about, shown))
                else:
                    watched.done += 1
                    act = watched.alone.do_step()
        machine.go(1)
        row = machine.row
        if sound:
            self.case.assertEqual(len(row) - shown, 0 if act is None else 1)
        if len(row) > shown:
            self.crossed(room, row[-1], act, sound)

    def crossed(self, room, crossing, act, sound):
        """A crossing out of the room has been shown; the act is that of the room alone, if it is sound."""
        registers = self.machine.registers
        word = crossing[0]
        if sound:
            told = {"call": lambda: ("calls", *crossing[2:]), "deep": lambda: ("calls", *crossing[2:]),
                    "back": lambda: ("gives", crossing[3]), "done": lambda: ("gives", crossing[1]),
                    "end": lambda: ("ends",)}[word]()
            self.case.assertEqual(told, act)
            if word in ("call", "deep"):
                self.case.assertEqual(registers, (crossing[4], crossing[2], crossing[3]) + (0,) * 7)
            elif word != "end":
                self.case.assertEqual(registers, (crossing[-1],) + (0,) * 9)
        if word == "call":
            self.askers.append(room)
            self.come_in(crossing[2], ("in", crossing[3], crossing[4]))
        elif word == "back":
            self.case.assertEqual(self.askers.pop(), crossing[2])
            self.come_in(crossing[2], ("got", crossing[3]))
        self.look_at_memory()

    def look_at_memory(self):
        for room, watched in self.rooms.items():
            if watched.sound:
                cells = self.machine.cells(room)
                for name, values in watched.alone.cells.items():
                    for index, value in enumerate(values):
                        if value is not None:
                            self.case.assertEqual(cells[watched.addresses[name] + index], value)
