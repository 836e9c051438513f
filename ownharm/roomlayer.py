"""Lays the section of a room: a cell for the place of the present frame, the code, the frames, the blocks."""

from ownharm.codecells import FRAME_SIZE, CodeCells
from ownharm.kinds import MODULUS
from ownharm.partlayer import CURRENT, PartLayer


def laid_parts(code, source, wires):
    """Lays the parts of a room; how many slots a frame has."""
    table = {pair: wires[at] for at, pair in enumerate(source[1])}
    bases = {}
    base = 0
    for function in source[3]:
        layer = PartLayer(code, function, base, table, bases)
        bases[function[0]] = base
        base = layer.lay()
    size = base
    # No two doors are at work in one frame: they share their slots.
    for door in source[4]:
        size = max(size, PartLayer(code, door, base, table, bases).lay())
    return size


def laid_room(source, wires, depth):
    """The cells of the section of a room with these wires, in a program of this depth."""
    code = CodeCells()
    code.numbers.append(0)
    size = laid_parts(code, source, wires)
    code.labels[FRAME_SIZE] = size
    # The entry of a door goes one frame on, the first one too.
    code.numbers[CURRENT] = (len(code.numbers) - size) % MODULUS
    # No room asks itself: of two runnings of its doors that are open at once one asks and is asked again behind it.
    frames = depth // 2 + 1
    code.numbers.extend([0] * (frames * size))
    for name, values in source[2]:
        code.labels[name] = len(code.numbers)
        code.numbers.extend([0 if value is None else value for value in values])
    code.fill()
    return code
