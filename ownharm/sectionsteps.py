"""Sections at work by themselves: what each instruction does there, and the acts that they come to."""

from ownharm.kinds import ENDS, MODULUS


def do_stop(work, b, c, d):
    """The run ends."""
    return ENDS


def do_rest(work, b, c, d):
    """The remainder of two registers; a rest by 0 is 0 here."""
    bank = work.bank
    bank[b] = 0 if bank[d] == 0 else bank[c] % bank[d]


def do_minus(work, b, c, d):
    """Their difference."""
    bank = work.bank
    bank[b] = (bank[c] - bank[d]) % MODULUS


def do_times(work, b, c, d):
    """Their product."""
    bank = work.bank
    bank[b] = (bank[c] * bank[d]) % MODULUS


def do_less(work, b, c, d):
    """1 if the first one is less, otherwise 0."""
    bank = work.bank
    bank[b] = 1 if bank[c] < bank[d] else 0


def do_ask_or_give(work, b, c, d):
    """An ask along a wire, the end of the run if there is no such wire, or a give."""
    bank = work.bank
    if d >= 5:
        return ("gives", bank[0])
    if (bank[b], bank[c]) in work.wires:
        return ("calls", bank[b], bank[c], bank[0])
    return ENDS


# By the first digit of the number, for the instructions that SectionWork does not do itself.
ACTIONS = {3: do_rest, 5: do_minus, 6: do_times, 7: do_less, 9: do_ask_or_give}


class SectionWork:
    """A section at work by itself: its cells, where it goes on, and the ten registers, which it may share."""

    def __init__(self, section, wires, bank):
        self.numbers = list(section[0])
        self.entries = section[1]
        self.wires = wires
        self.bank = bank
        self.address = 0

    def twin(self, bank):
        """The section at the same moment, with other registers."""
        other = SectionWork((self.numbers, self.entries), self.wires, bank)
        other.address = self.address
        return other

    def advance(self, steps):
        """Does so many steps, up to an act: the pair of how many were done and the act, or None."""
        numbers = self.numbers
        bank = self.bank
        address = self.address
        size = len(numbers)
        for done in range(1, steps + 1):
            if address >= size:
                return (done, ENDS)
            number = numbers[address]
            address += 1
            word = number // 1000
            b = number // 100 % 10
            if word == 1:
                # A set needs one cell more.
                if address >= size:
                    return (done, ENDS)
                bank[b] = numbers[address]
                address += 1
            elif word == 4:
                bank[b] = (bank[number // 10 % 10] + bank[number % 10]) % MODULUS
            elif word == 2:
                spot = bank[number // 10 % 10]
                if spot >= size:
                    return (done, ENDS)
                if number % 10 < 5:
                    bank[b] = numbers[spot]
                else:
                    numbers[spot] = bank[b]
            elif word == 8:
                if bank[b] != 0:
                    address = bank[number // 10 % 10]
            else:
                action = ACTIONS.get(word, do_stop)
                act = action(self, b, number // 10 % 10, number % 10)
                if act is not None:
                    self.address = address
                    return (done, act)
        self.address = address
        return (steps, None)
