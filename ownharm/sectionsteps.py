"""One step of each instruction: what it does to a section at work; the act that it comes to, or None."""

from ownharm.kinds import ENDS, MODULUS


def do_stop(work, b, c, d):
    """The run ends."""
    return ENDS


def do_set(work, b, c, d):
    """A register becomes the next cell, if there is one; it goes on behind that one."""
    address = work.address
    if address >= len(work.numbers):
        return ENDS
    work.bank[b] = work.numbers[address]
    work.address = address + 1
    return None


def do_get_or_put(work, b, c, d):
    """A register becomes a cell, or a cell becomes what a register is, if there is this cell."""
    address = work.bank[c]
    if address >= len(work.numbers):
        return ENDS
    if d < 5:
        work.bank[b] = work.numbers[address]
    else:
        work.numbers[address] = work.bank[b]
    return None


def do_rest(work, b, c, d):
    """The remainder of two registers; a rest by 0 is 0 here."""
    bank = work.bank
    bank[b] = 0 if bank[d] == 0 else bank[c] % bank[d]


def do_plus(work, b, c, d):
    """The sum of two registers."""
    bank = work.bank
    bank[b] = (bank[c] + bank[d]) % MODULUS


def do_minus(work, b, c, d):
    """Their difference."""
    bank = work.bank
    bank[b] = (bank[c] - bank[d]) % MODULUS


def do_times(work, b, c, d):
    """Their product."""
    bank = work.bank
    bank[b] = (bank[c] * bank[d]) % MODULUS


def do_less(work, b, c, d):
    """1 if the first one is less, otherwise 0."""
    bank = work.bank
    bank[b] = 1 if bank[c] < bank[d] else 0


def do_jump(work, b, c, d):
    """Goes on at the address that a register tells, if another one is not 0."""
    if work.bank[b] != 0:
        work.address = work.bank[c]


def do_ask_or_give(work, b, c, d):
    """An ask along a wire, the end of the run if there is no such wire, or a give."""
    bank = work.bank
    if d >= 5:
        return ("gives", bank[0])
    if (bank[b], bank[c]) in work.wires:
        return ("calls", bank[b], bank[c], bank[0])
    return ENDS


# By the first digit of the number.
ACTIONS = (do_stop, do_set, do_get_or_put, do_rest, do_plus, do_minus, do_times, do_less, do_jump, do_ask_or_give)


class SectionWork:
    """A section at work by itself: its cells, where it goes on, and the ten registers, which it may share."""

    def __init__(self, section, wires, bank):
        self.numbers = list(section[0])
        self.entries = section[1]
        self.wires = wires
        self.bank = bank
        self.address = 0

    def twin(self, bank):
        """The section at the same moment, with other registers."""
        other = SectionWork((self.numbers, self.entries), self.wires, bank)
        other.address = self.address
        return other

    def advance(self, steps):
        """Does so many steps, up to an act: the pair of how many were done and the act, or None."""
        numbers = self.numbers
        for done in range(steps):
            address = self.address
            if address >= len(numbers):
                return (done + 1, ENDS)
            number = numbers[address]
            # Ahead of the action, which may say otherwise.
            self.address = address + 1
            action = ACTIONS[number // 1000]
            act = action(self, number // 100 % 10, number // 10 % 10, number % 10)
            if act is not None:
                return (done + 1, act)
        return (steps, None)
