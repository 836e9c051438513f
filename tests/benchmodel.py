"""A bench led by hand: a Machine, and beside it what stands in the document of each deed."""

from ownharm.boards import board_of
from ownharm.errors import (BadAddress, BadName, BadNumber, BadProgram, BadRoom, BadRoomNumber, BadSection, BadSteps,
                            NothingDone, NotKept, NotLaid)
from ownharm.explaining import exchanged, explained
from ownharm.machine import Machine
from ownharm.rooms import is_name, is_program, is_room
from ownharm.sections import is_section


def whole(value, low, high):
    return type(value) is int and low <= value <= high


class Hand:
    def __init__(self, program, number):
        self.program, self.number = program, number
        self.laid, self.written, self.shelf = {}, set(), {}
        self.machine = Machine(board_of(program), number)
        self.log, self.past, self.rows = [], [], [self.machine.row]

    def now(self):
        return (self.program, self.number, dict(self.laid), set(self.written), self.machine.copy())

    def put_back(self, moment):
        self.program, self.number = moment[:2]
        self.laid, self.written, self.machine = dict(moment[2]), set(moment[3]), moment[4].copy()

    def anew(self):
        self.machine = Machine(board_of(self.program, self.laid), self.number)
        self.written = set()

    def touched(self):
        return tuple(sorted(set(self.laid) | self.written))

    def do(self, deed):
        """Does a deed (its name and its arguments); what is raised is raised ahead of any change."""
        if deed[0] == "undo":
            if not self.log:
                raise NothingDone("")
            self.log.pop()
            self.rows.pop()
            moment, shelf = self.past.pop()
            self.put_back(moment)
            self.shelf = shelf
            return
        ahead = (self.now(), dict(self.shelf))
        self.check(deed)
        getattr(self, "do_" + deed[0])(*deed[1:])
        self.past.append(ahead)
        self.log.append(tuple(deed))
        self.rows.append(self.machine.row)

    def check(self, deed):
        word, told = deed[0], deed[1:]
        rooms = self.program[1]
        if word in ("write", "lay", "recompile", "rewrite") and not whole(told[0], 0, len(rooms) - 1):
            raise BadRoomNumber("")
        if word == "write" and not whole(told[1], 0, len(self.machine.cells(told[0])) - 1):
            raise BadAddress("")
        if (word == "begin" or word == "write") and not whole(told[-1], 0, 9999):
            raise BadNumber("")
        if word == "go" and not whole(told[0], 0, 10 ** 6):
            raise BadSteps("")
        if word == "lay" and (not is_section(told[1]) or len(told[1][1]) != len(rooms[told[0]][4])):
            raise BadSection("")
        if word == "recompile" and told[0] not in self.laid:
            raise NotLaid(told[0])
        if word == "rewrite":
            if not is_room(told[1]):
                raise BadRoom("")
            if not is_program(self.with_room(*told)):
                raise BadProgram("")
            board_of(self.with_room(*told), {room: self.laid[room] for room in self.laid if room != told[0]})
        if word == "keep" and not is_name(told[0]):
            raise BadName("")
        if word == "back" and not (isinstance(told[0], str) and told[0] in self.shelf):
            raise NotKept(told[0])
        if word == "settle":
            board_of(self.settled())

    def with_room(self, room, source):
        return (self.program[0], self.program[1][:room] + (source,) + self.program[1][room + 1:])

    def blames(self, steps=200000):
        return explained(self.program, self.machine.row, self.touched(), steps)

    def settled(self):
        rooms = tuple(sorted([*self.touched(), *[blame[0] for blame in self.blames()]]))
        return exchanged(self.program, self.machine.row, rooms)

    def do_go(self, steps):
        self.machine.go(steps)

    def do_write(self, room, address, number):
        self.machine.put(room, address, number)
        self.written.add(room)

    def do_lay(self, room, section):
        self.laid[room] = section
        self.anew()

    def do_recompile(self, room):
        del self.laid[room]
        self.anew()

    def do_rewrite(self, room, source):
        self.program = self.with_room(room, source)
        self.laid.pop(room, None)
        self.anew()

    def do_begin(self, number):
        self.number = number
        self.anew()

    def do_settle(self):
        many = len(self.machine.row)
        self.program, self.laid = self.settled(), {}
        self.anew()
        while len(self.machine.row) < many:
            self.machine.go(1)

    def do_keep(self, name):
        self.shelf[name] = self.now()

    def do_back(self, name):
        self.put_back(self.shelf[name])
