"""Lays the instructions of one part of a room.

r9 holds the address of the present frame, r7 and r8 are free at any moment, the others hold values. A value
that waits while another one is worked out lies in a register if that other one runs and asks nothing and
needs few registers, otherwise in a slot of the frame: a run or an ask keeps no register.
"""

from ownharm.partsteps import local_names
from ownharm.roomcheck import MOST_SIZE
from ownharm.syntax import children, nodes_in, numbered

FRAME = 9
LAST_FREE = 6
# The address of the cell that holds the address of the present frame.
CURRENT = 0
# More registers than there are.
NEVER = 100


def needed_registers(value):
    """How many registers it takes to work an expression out, NEVER or more if it runs or asks anything."""
    if value[0] == "run" or value[0] == "ask":
        return NEVER
    inner = [needed_registers(one) for one in children(value)]
    # Each operand waits in a register while the next one is worked out.
    return max([1] + [ahead + many for ahead, many in enumerate(inner)])


class PartLayer:
    """Lays one part; base is the offset within a frame of the first slot that is its own.

    wires is a dict from the imports to numbers, bases one from the functions ahead to their bases. The first
    slot of a function keeps the address behind its run, then come its params.
    """

    def __init__(self, code, part, base, wires, bases):
        self.code = code
        self.part = part
        self.base = base
        self.wires = wires
        self.bases = bases
        self.of_door = len(part) == 4
        first = base if self.of_door else base + 1
        self.slots = {name: first + at for at, name in enumerate(local_names(part))}
        self.free = first + len(self.slots)
        self.most = self.free

    def lay(self):
        """Lays the part; the offset behind the last slot that it uses."""
        self.code.mark(("part", self.part[0]))
        if self.of_door:
            self.lay_entry()
        self.lay_body(numbered(self.part[-1], 0))
        self.code.put_set(0, 0)
        self.lay_leave(self.place(len(nodes_in(self.part[-1]))))
        return self.most

    def place(self, at):
        """The place of the node with the index."""
        return (self.part[0], at)

    def get_slot(self, reg, slot, place=None):
        """Lays: a register becomes what is in a slot."""
        self.code.put_set(reg, slot)
        self.code.put(("plus", reg, FRAME, reg))
        self.code.put(("get", reg, reg), place)

    def put_slot(self, reg, slot, place=None):
        """Lays: a slot becomes what is in a register."""
        self.code.put_set(8, slot)
        self.code.put(("plus", 8, FRAME, 8))
        self.code.put(("put", reg, 8), place)

    def keep(self, reg):
        """Lays: a free slot becomes what is in a register; the slot, which is free no longer."""
        slot = self.free
        self.free += 1
        self.most = max(self.most, self.free)
        self.put_slot(reg, slot)
        return slot

    def lay_entry(self):
        """Lays the entry of a door: one frame more, the param set to the number modulo the size."""
        self.code.put_set(8, CURRENT)
        self.code.put(("get", FRAME, 8))
        self.code.put_label(7, "size")
        self.code.put(("plus", FRAME, FRAME, 7))
        self.code.put(("put", FRAME, 8))
        if self.part[2] < MOST_SIZE:
            self.code.put_set(7, self.part[2])
            self.code.put(("rest", 0, 0, 7))
        self.put_slot(0, self.slots[self.part[1]])

    def lay_leave(self, place):
        """Lays: the running gives r0, which is the step of the place."""
        if not self.of_door:
            self.get_slot(7, self.base)
            self.code.put(("jump", 7, 7), place)
            return
        self.code.put_label(7, "size")
        self.code.put(("minus", 7, FRAME, 7))
        self.code.put_set(8, CURRENT)
        self.code.put(("put", 7, 8))
        self.clear_from(1)
        self.code.put(("give",), place)

    def clear_from(self, reg):
        """Lays: this register and those behind it become 0."""
        for one in range(reg, 10):
            self.code.put(("minus", one, one, one))

    def lay_value(self, value, at, reg):
        """Lays: a register becomes the value of an expression; those below it keep what they hold."""
        word = value[0]
        if word == "number":
            self.code.put_set(reg, value[1], self.place(at))
        elif word == "local":
            self.get_slot(reg, self.slots[value[1]], self.place(at))
        elif word == "cell":
            self.lay_value(value[2], at + 1, reg)
            self.code.put_label(7, ("block", value[1]))
            self.code.put(("plus", 7, reg, 7))
            self.code.put(("get", reg, 7), self.place(at))
        elif word == "run":
            self.lay_run(value, at)
        elif word == "ask":
            self.lay_ask(value, at)
        else:
            left, right = self.lay_pair(numbered(value[1:], at + 1), reg)
            self.lay_sign(word, reg, left, right, self.place(at))

    def lay_pair(self, pair, reg):
        """Lays two expressions (index, node), using this register and those above; the two where their values are."""
        (at, one), (behind, other) = pair
        self.lay_value(one, at, reg)
        if reg + needed_registers(other) <= LAST_FREE:
            self.lay_value(other, behind, reg + 1)
            return (reg, reg + 1)
        slot = self.keep(reg)
        self.lay_value(other, behind, reg)
        self.get_slot(7, slot)
        self.free -= 1
        return (7, reg)

    def lay_sign(self, word, reg, left, right, place):
        """Lays: a register becomes what the word makes of two others."""
        if word == "same":
            self.code.put(("minus", reg, left, right))
            self.code.put_set(8, 1)
            self.code.put(("less", reg, reg, 8), place)
        else:
            self.code.put((word, reg, left, right), place)

    def lay_run(self, value, at):
        """Lays a run; what is given will be in r0. No value waits in a register."""
        base = self.bases[value[1]]
        kept = []
        for param, (spot, argument) in enumerate(numbered(value[2], at + 1)):
            self.lay_value(argument, spot, 0)
            # A later argument may run the same function, which has but one slot for each param.
            if any([needed_registers(later) >= NEVER for later in value[2][param + 1:]]):
                kept.append((self.keep(0), base + 1 + param))
            else:
                self.put_slot(0, base + 1 + param)
        for slot, own in kept:
            self.get_slot(0, slot)
            self.put_slot(0, own)
        self.free -= len(kept)
        behind = self.code.new_label()
        self.code.put_label(7, behind)
        self.put_slot(7, base)
        self.code.put_leap(7, ("part", value[1]), self.place(at))
        self.code.mark(behind)

    def lay_ask(self, value, at):
        """Lays an ask; the answer will be in r0. No value waits in a register."""
        self.lay_value(value[3], at + 1, 0)
        room, door = self.wires[(value[1], value[2])]
        self.code.put_set(1, room)
        self.code.put_set(2, door)
        self.clear_from(3)
        self.code.put(("ask", 1, 2), self.place(at))
        # Whatever the registers hold now: the frame is the one that was left.
        self.code.put_set(FRAME, CURRENT)
        self.code.put(("get", FRAME, FRAME))

    def lay_body(self, statements):
        """Lays statements (index, node) one behind another."""
        for at, statement in statements:
            self.lay_statement(statement, at)

    def lay_statement(self, statement, at):
        """Lays a statement and all that stands in it."""
        word = statement[0]
        inner = numbered(children(statement), at + 1)
        if word == "let":
            self.lay_value(statement[2], at + 1, 0)
            self.put_slot(0, self.slots[statement[1]], self.place(at))
        elif word == "store":
            left, right = self.lay_pair(inner, 0)
            self.code.put_label(8, ("block", statement[1]))
            self.code.put(("plus", 8, left, 8))
            self.code.put(("put", right, 8), self.place(at))
        elif word == "if":
            self.lay_if(inner, len(statement[2]), at)
        elif word == "while":
            self.lay_while(inner, at)
        elif word == "give":
            self.lay_value(statement[1], at + 1, 0)
            self.lay_leave(self.place(at))
        else:
            self.code.put(("stop",), self.place(at))

    def lay_if(self, inner, many, at):
        """Lays an if; inner are its test, so many statements of its first body, and those of its second one."""
        first = self.code.new_label()
        end = self.code.new_label()
        self.lay_value(inner[0][1], at + 1, 0)
        self.code.put_label(7, first)
        self.code.put(("jump", 0, 7), self.place(at))
        self.lay_body(inner[1 + many:])
        self.code.put_leap(7, end)
        self.code.mark(first)
        self.lay_body(inner[1:1 + many])
        self.code.mark(end)

    def lay_while(self, inner, at):
        """Lays a while; inner are its test and the statements of its body."""
        body = self.code.new_label()
        test = self.code.new_label()
        self.code.put_leap(7, test)
        self.code.mark(body)
        self.lay_body(inner[1:])
        self.code.mark(test)
        self.lay_value(inner[0][1], at + 1, 0)
        self.code.put_label(7, body)
        self.code.put(("jump", 0, 7), self.place(at))
