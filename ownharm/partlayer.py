"""Lays the instructions of one part of a room.

r9 holds the address of the present frame, r7 and r8 are free at any moment, the others hold values. A value
that waits while another one is worked out lies in a register if that other one runs and asks nothing and
needs few registers, otherwise in a slot of the frame: a run or an ask keeps no register.
"""

from ownharm.codecells import ASK, CLEARED, FRAME_SIZE, GET, GIVE, JUMP, LESS, MINUS, PLUS, PUT, REST, SET, SIGNS, STOP
from ownharm.partshape import NEVER, PartShape
from ownharm.roomcheck import MOST_SIZE

LAST_FREE = 6
# The address of the cell that holds the address of the present frame.
CURRENT = 0


class PartLayer:
    """Lays one part; base is the offset within a frame of the first slot that is its own.

    wires is a dict from the imports to numbers, bases one from the functions ahead to their bases. The first
    slot of a function keeps the address behind its run, then come its params.
    """

    def __init__(self, code, part, base, wires, bases):
        self.code = code
        self.numbers = code.numbers
        self.part = part
        self.base = base
        self.wires = wires
        self.bases = bases
        self.of_door = len(part) == 4
        shape = PartShape(part)
        self.ends = shape.ends
        self.needs = shape.needs
        first = base if self.of_door else base + 1
        self.slots = {name: first + at for name, at in shape.names.items()}
        self.free = first + len(self.slots)
        self.most = self.free

    def lay(self):
        """Lays the part; the offset behind the last slot that it uses."""
        self.code.entries[self.part[0]] = len(self.numbers)
        if self.of_door:
            self.lay_entry()
        self.lay_body(self.part[-1], 0)
        self.numbers.extend((SET, 0))
        self.lay_leave(len(self.ends))
        return self.most

    def do_step(self, number, at):
        """Lays an instruction that does the step of the node with the index."""
        self.code.marks.append((len(self.numbers), self.part[0], at))
        self.numbers.append(number)

    def get_slot(self, reg, slot):
        """Lays: a register becomes what is in a slot."""
        self.numbers.extend((SET + 100 * reg, slot, PLUS + 90 + 101 * reg, GET + 110 * reg))

    def put_slot(self, reg, slot):
        """Lays: a slot becomes what is in a register."""
        self.numbers.extend((SET + 800, slot, PLUS + 898, PUT + 100 * reg + 80))

    def keep(self, reg):
        """Lays: a free slot becomes what is in a register; the slot, which is free no longer."""
        slot = self.free
        self.free += 1
        self.most = max(self.most, self.free)
        self.put_slot(reg, slot)
        return slot

    def lay_entry(self):
        """Lays the entry of a door: one frame more, the param set to the number modulo the size."""
        self.numbers.extend((SET + 800, CURRENT, GET + 980))
        self.code.put_label(7, FRAME_SIZE)
        self.numbers.extend((PLUS + 997, PUT + 980))
        if self.part[2] < MOST_SIZE:
            self.numbers.extend((SET + 700, self.part[2], REST + 7))
        self.put_slot(0, self.slots[self.part[1]])

    def lay_leave(self, at):
        """Lays: the running gives r0, which is the step of the place with the index."""
        if not self.of_door:
            self.get_slot(7, self.base)
            self.do_step(JUMP + 770, at)
            return
        self.code.put_label(7, FRAME_SIZE)
        self.numbers.extend((MINUS + 797, SET + 800, CURRENT, PUT + 780))
        self.numbers.extend(CLEARED)
        self.do_step(GIVE, at)

    def lay_value(self, value, at, reg):
        """Lays: a register becomes the value of an expression; those below it keep what they hold."""
        word = value[0]
        if word == "number":
            self.do_step(SET + 100 * reg, at)
            self.numbers.append(value[1])
        elif word == "local":
            self.numbers.extend((SET + 100 * reg, self.slots[value[1]], PLUS + 90 + 101 * reg))
            self.do_step(GET + 110 * reg, at)
        elif word == "cell":
            self.lay_value(value[2], at + 1, reg)
            self.code.put_label(7, value[1])
            self.numbers.append(PLUS + 707 + 10 * reg)
            self.do_step(GET + 70 + 100 * reg, at)
        elif word == "run":
            self.lay_run(value, at)
        elif word == "ask":
            self.lay_ask(value, at)
        else:
            left, right = self.lay_pair(value[1], value[2], at + 1, reg)
            if word == "same":
                self.numbers.extend((MINUS + 100 * reg + 10 * left + right, SET + 800, 1))
                self.do_step(LESS + 110 * reg + 8, at)
            else:
                self.do_step(SIGNS[word] + 100 * reg + 10 * left + right, at)

    def lay_pair(self, one, other, at, reg):
        """Lays two expressions, the first one with the index, using this register and those above; the two registers
        where their values are."""
        self.lay_value(one, at, reg)
        behind = self.ends[at]
        if reg + self.needs[behind] <= LAST_FREE:
            self.lay_value(other, behind, reg + 1)
            return (reg, reg + 1)
        slot = self.keep(reg)
        self.lay_value(other, behind, reg)
        self.get_slot(7, slot)
        self.free -= 1
        return (7, reg)

    def lay_run(self, value, at):
        """Lays a run; what is given will be in r0. No value waits in a register."""
        base = self.bases[value[1]]
        kept = []
        spot = at + 1
        for param, argument in enumerate(value[2]):
            self.lay_value(argument, spot, 0)
            spot = self.ends[spot]
            # A later argument may run the same function, which has but one slot for each param.
            if max([0] + self.needs[spot:self.ends[at]]) >= NEVER:
                kept.append((self.keep(0), base + 1 + param))
            else:
                self.put_slot(0, base + 1 + param)
        for slot, own in kept:
            self.get_slot(0, slot)
            self.put_slot(0, own)
        self.free -= len(kept)
        behind = len(self.numbers) + 9
        self.numbers.extend((SET + 700, behind))
        self.put_slot(7, base)
        self.numbers.extend((SET + 700, self.code.entries[value[1]]))
        self.do_step(JUMP + 770, at)

    def lay_ask(self, value, at):
        """Lays an ask; the answer will be in r0. No value waits in a register."""
        self.lay_value(value[3], at + 1, 0)
        room, door = self.wires[(value[1], value[2])]
        self.numbers.extend((SET + 100, room, SET + 200, door))
        self.numbers.extend(CLEARED[2:])
        self.do_step(ASK + 120, at)
        # Whatever the registers hold now: the frame is the one that was left.
        self.numbers.extend((SET + 900, CURRENT, GET + 990))

    def lay_body(self, body, at):
        """Lays statements one behind another, the first one with the index."""
        for statement in body:
            self.lay_statement(statement, at)
            at = self.ends[at]

    def lay_statement(self, statement, at):
        """Lays a statement and all that stands in it."""
        word = statement[0]
        if word == "let":
            self.lay_value(statement[2], at + 1, 0)
            self.numbers.extend((SET + 800, self.slots[statement[1]], PLUS + 898))
            self.do_step(PUT + 80, at)
        elif word == "store":
            left, right = self.lay_pair(statement[2], statement[3], at + 1, 0)
            self.code.put_label(8, statement[1])
            self.numbers.append(PLUS + 808 + 10 * left)
            self.do_step(PUT + 100 * right + 80, at)
        elif word == "if":
            self.lay_if(statement, at)
        elif word == "while":
            self.lay_while(statement, at)
        elif word == "give":
            self.lay_value(statement[1], at + 1, 0)
            self.lay_leave(at)
        else:
            self.do_step(STOP, at)

    def lay_if(self, statement, at):
        """Lays an if: its test, its second body and the way past the first one, its first body."""
        numbers = self.numbers
        self.lay_value(statement[1], at + 1, 0)
        first = self.ends[at + 1]
        second = first
        for _ in statement[2]:
            second = self.ends[second]
        to_first = len(numbers) + 1
        numbers.extend((SET + 700, 0))
        self.do_step(JUMP + 70, at)
        self.lay_body(statement[3], second)
        to_end = len(numbers) + 1
        numbers.extend((SET + 700, 0, JUMP + 770))
        numbers[to_first] = len(numbers)
        self.lay_body(statement[2], first)
        numbers[to_end] = len(numbers)

    def lay_while(self, statement, at):
        """Lays a while: the way past its body, its body, its test."""
        numbers = self.numbers
        to_test = len(numbers) + 1
        # A way is gone always: it leads to no address 0, where no code lies.
        numbers.extend((SET + 700, 0, JUMP + 770))
        body = len(numbers)
        self.lay_body(statement[2], self.ends[at + 1])
        numbers[to_test] = len(numbers)
        self.lay_value(statement[1], at + 1, 0)
        numbers.extend((SET + 700, body))
        self.do_step(JUMP + 70, at)
