"""Blame: which rooms did harm, told in the language of the rooms alone."""

from ownharm.errors import BadPrograms, BadRooms, BadRows, TooLong, Unexplained
from ownharm.kinds import is_whole
from ownharm.making import need_fitting_row, room_showing, small_least, with_made
from ownharm.needs import need_steps
from ownharm.programrun import ProgramRun, rooms_alone
from ownharm.roomalone import RoomAlone
from ownharm.roomcheck import good_program
from ownharm.rooms import all_wires, face_in
from ownharm.rowcheck import good_row
from ownharm.rows import fits_in, views_in
from ownharm.treerooms import room_doing
from ownharm.viewtrees import tree_behind

MOST_PROGRAMS = 6


def are_rooms(value, many):
    """Whether any value is an ascending tuple of unlike numbers of rooms, of which there are so many."""
    if not isinstance(value, tuple) or not all([is_whole(room, 0, many - 1) for room in value]):
        return False
    return all([value[at] < value[at + 1] for at in range(len(value) - 1)])


def need_rooms(program, rooms):
    """BadRooms for what is no ascending tuple of unlike numbers of rooms of the program."""
    if not are_rooms(rooms, len(program[1])):
        raise BadRooms("the value is no ascending tuple of numbers of rooms")


def exchanged(program, row, rooms):
    """The program in which each of these rooms is made from the tree of its own view of the row."""
    need_fitting_row(program, row)
    need_rooms(program, rooms)
    return with_made(program, row, rooms)


def shown_beginning(row, shown):
    """How many crossings of the row are shown, ahead of the first one that is another or is lacking."""
    many = min(len(row), len(shown))
    for at in range(many):
        if row[at] != shown[at]:
            return at
    return many


class Explanation:
    """The blames for a row that fits a good program; each of the runs that find them tries at most so many steps.

    found is the list of the blames. rooms are those of the program at last: the foreign ones and those blamed are
    made from their views of the row, the crossings.
    """

    def __init__(self, program, row, steps):
        self.depth = program[0]
        self.rooms = rooms_alone(program)
        self.wires = all_wires(program)
        self.crossings = row
        self.views = views_in(row)
        self.most = steps
        self.found = []

    def explain(self, foreign):
        """Finds the blames, the rooms foreign having any sections; TooLong, TooMany, Unexplained."""
        for room in foreign:
            self.exchange(room)
        blame = self.next_blame()
        while blame is not None:
            self.found.append(blame)
            self.exchange(blame[0])
            blame = self.next_blame()

    def exchange(self, room):
        """The room is exchanged for one made from the tree of its own view; TooMany."""
        source = room_showing(self.rooms[room].source, self.wires[room], self.views[room])
        self.rooms[room] = RoomAlone(source, self.wires[room])

    def next_blame(self):
        """The blame to which the run of the rooms comes, None if it shows the row; TooLong, Unexplained."""
        for alone in self.rooms:
            alone.restart()
        run = ProgramRun(self.depth, self.rooms, self.crossings[0][1])
        run.go(self.most, len(self.crossings))
        at = shown_beginning(self.crossings, run.shown)
        if at == len(self.crossings):
            return None
        if at < len(run.shown):
            raise Unexplained(at)
        if run.harm is None:
            # It is running: no row goes on behind a last crossing.
            raise TooLong("so many steps do not show the row")
        return (run.harm[0], run.harm[1], at)

    def last_program(self):
        """The program of the rooms at last."""
        return (self.depth, tuple([alone.source for alone in self.rooms]))


def explanation_of(program, row, foreign, steps):
    """The explanation of a row that fits a good program; TooLong, TooMany, Unexplained."""
    explanation = Explanation(program, row, steps)
    explanation.explain(foreign)
    return explanation


def explained(program, row, foreign=(), steps=200000):
    """The list of the blames: who did harm, if the machine showed this row."""
    need_fitting_row(program, row)
    need_rooms(program, foreign)
    need_steps(steps)
    return explanation_of(program, row, foreign, steps).found


def is_just(value, told):
    """Whether any value is the one told, which is made of tuples, strings and wholes."""
    if isinstance(told, tuple):
        if not isinstance(value, tuple) or len(value) != len(told):
            return False
        return all([is_just(one, other) for one, other in zip(value, told)])
    if isinstance(told, str):
        return isinstance(value, str) and value == told
    return isinstance(value, int) and not isinstance(value, bool) and value == told


def is_explained(program, row, foreign, value, steps=200000):
    """Whether any value is the list of the blames."""
    try:
        blames = explained(program, row, foreign, steps)
    except Unexplained:
        return False
    return isinstance(value, (list, tuple)) and is_just(tuple(value), tuple(blames))


def sound_row(program, row, foreign=(), steps=200000):
    """The list of the crossings of the row ahead of the first blame."""
    blames = explained(program, row, foreign, steps)
    return list(row[:blames[0][2]]) if blames else list(row)


def need_programs(programs):
    """BadPrograms for what is no list of 1 to 6 programs."""
    if not isinstance(programs, (list, tuple)) or not 1 <= len(programs) <= MOST_PROGRAMS:
        raise BadPrograms("the value is no list of 1 to 6 programs")
    if not all([good_program(program) for program in programs]):
        raise BadPrograms("one of the values is no program")


def need_rows(faces, rows):
    """BadRows for what is no list of rows, each one fitting the face with the same index."""
    if not isinstance(rows, (list, tuple)) or len(rows) != len(faces):
        raise BadRows("the value is no list of as many rows as programs")
    if not all([good_row(row) and fits_in(row, face) for row, face in zip(rows, faces)]):
        raise BadRows("one of the values is no row that fits its program")


def need_alike_rooms(faces, rooms):
    """BadRooms for what is no ascending tuple of rooms with equal wires and as many doors in all faces."""
    if not are_rooms(rooms, min([len(face[2]) for face in faces])):
        raise BadRooms("the value is no ascending tuple of numbers of rooms")
    for room in rooms:
        if not all([face[1][room] == faces[0][1][room] and face[2][room] == faces[0][2][room] for face in faces]):
            raise BadRooms("one of the rooms has other wires or doors in some program")


def beside(programs, rows, rooms):
    """The list of the programs in each of which these rooms are made from the tree of their views of all rows."""
    need_programs(programs)
    faces = [face_in(program) for program in programs]
    need_rows(faces, rows)
    need_alike_rooms(faces, rooms)
    views = [views_in(row) for row in rows]
    # All of them ahead of the rooms: views that part are told first.
    trees = [tree_behind([told[room] for told in views]) for room in rooms]
    leasts = [small_least(tree, True) for tree in trees]
    found = []
    for depth, sources in programs:
        new = list(sources)
        for room, least in zip(rooms, leasts):
            new[room] = room_doing(sources[room], faces[0][1][room], least)
        found.append((depth, tuple(new)))
    return found
