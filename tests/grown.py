"""Trees that grow beside the other rooms of a program: each time the room ends the run, it is told another act."""

from drawn import POOL, draw_room
from ownharm.making import made
from ownharm.meaning import Run
from ownharm.rooms import face_of
from ownharm.rows import view_of
from ownharm.viewtrees import tree_of
from plaintrees import ENDS, draw_act


def with_room(program, room, source):
    """The program with another room in the place of this one."""
    rooms = list(program[1])
    rooms[room] = source
    return (program[0], tuple(rooms))


def run_of(program, number, steps=3000):
    run = Run(program, number)
    run.go(steps)
    return run


def grow(program, room, rng, rounds, numbers=(0, 3, 9999)):
    """(views of the room in runs of the program with made ones in its place, the tree of them)."""
    wires = face_of(program)[1][room]
    views = []
    for _ in range(rounds):
        new = with_room(program, room, made(program, room, tree_of(views)))
        view = view_of(run_of(new, rng.choice(numbers)).row, room)
        if view and view[-1] == ENDS:
            act = draw_act(rng, wires * 3)
            # Where it ends now another act may be told later.
            views.append(view[:-1] + ([act] if act != ENDS else []))
    return views, tree_of(views)


def draw_meeting_program(rng, depth, rooms=3):
    """A program of drawn rooms that all import doors of one another."""
    names = ["a", "b", "c", "x"][:rooms]
    doors = {name: rng.sample(POOL, 2) for name in names}
    sources = []
    for name in names:
        choices = [(other, door) for other in names if other != name for door in doors[other]]
        sources.append(draw_room(rng, name, doors[name], rng.sample(choices, 4 if rooms > 2 else 2), True, 40))
    return (depth, tuple(sources))


def draw_bare_program(rng, face):
    """A program with this face, of rooms that do nothing, with names that a made room may use for its own."""
    depth, wires, doors = face
    names = rng.sample(["turn0", "turn1", "e", "x", "out", "first", "kind", "a", "b1", "s", "to", "value"], len(doors))
    known = [rng.sample(["turn0", "turn1", "turn2", "e", "i", "out", "first", "get", "d1", "t"], many) for many in doors]
    rooms = []
    for room, name in enumerate(names):
        imports = tuple((names[to], known[to][door]) for to, door in wires[room])
        told = tuple((door, rng.choice(["x", "e", "k", "turn0", "s", "out", "event"]), rng.choice([1, 7, 10000]), ())
                     for door in known[room])
        rooms.append((name, imports, (), (), told))
    return (depth, tuple(rooms))
