"""Programs with rooms that do undefined steps, foreign sections beside them, and what the machine shows of them."""

import random

from drawn import draw_room
from drawnsections import draw_section
from grown import draw_meeting_program
from ownharm.boards import board_of
from ownharm.errors import TooLarge
from ownharm.machine import machine_row
from ownharm.meaning import Run
from ownharm.rooms import face_of
from ownharm.explaining import exchanged


def draw_harmful_program(rng, rooms=None, wild=0.5):
    """A program in which some rooms are likely to do undefined steps."""
    rooms = rooms or rng.choice([2, 3, 4])
    depth, sources = draw_meeting_program(rng, rng.choice([1, 2, 5, 60]), rooms)
    drawn = [draw_room(rng, source[0], [door[0] for door in source[4]], source[1], rng.random() > wild, 40) for source in sources]
    return (depth, tuple(drawn))


def draw_foreign(rng, program, often=0.4):
    _, wires, doors = face_of(program)
    return {room: draw_section(rng, wires[room], doors[room]) for room in range(len(doors)) if rng.random() < often}


def shown_rows(seeds, most=150, often=0.4, wild=0.5):
    """(program, foreign sections, number, row of the machine), drawn."""
    for seed in seeds:
        rng = random.Random(seed)
        program = draw_harmful_program(rng, wild=wild)
        foreign = draw_foreign(rng, program, often)
        number = rng.choice([0, 3, 77, 9999])
        try:
            row = machine_row(board_of(program, foreign), number, 2000)
        except TooLarge:
            continue
        yield rng, program, foreign, number, row[:most]


class Unshown(Exception):
    """The crossing with this index is not shown."""


class Long(Exception):
    """There are too many steps."""


def plain_blames(program, row, foreign, steps):
    """The list of the blames, step by step as the document tells; and the most steps that one of the runs has tried."""
    rooms, blames, most = list(foreign), [], 0
    while True:
        run = Run(exchanged(program, row, tuple(sorted(rooms))), row[0][1])
        tried = 0
        while len(run.row) < len(row):
            if run.row != list(row[:len(run.row)]):
                break
            if tried == steps:
                raise Long()
            if run.state != "running":
                break
            run.go(1)
            tried += 1
        most = max(most, tried)
        shown = run.row
        if shown == list(row):
            return blames, most
        if run.state == "undefined" and shown == list(row[:len(shown)]):
            blames.append((run.fault[0], run.fault[1], len(shown)))
            rooms.append(run.fault[0])
            continue
        same = [at for at in range(min(len(shown), len(row))) if shown[at] != row[at]]
        raise Unshown(same[0] if same else len(shown))
