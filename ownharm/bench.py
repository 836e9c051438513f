"""A bench: a program on the machine, with deeds that can be taken back, and the blame at any moment."""

from ownharm.boardcheck import good_section
from ownharm.boardrun import begun_run
from ownharm.boards import board_in
from ownharm.compiling import section_with
from ownharm.errors import BadAddress, BadMoment, BadName, BadProgram, BadSection, NothingDone, NotKept, NotLaid
from ownharm.explaining import explanation_of
from ownharm.kinds import good_name, is_whole
from ownharm.needs import MOST_STEPS, need_number, need_program, need_room, need_room_number, need_steps
from ownharm.roomcheck import are_joined
from ownharm.rooms import all_wires

BLAME_STEPS = 200000
# One room, of which the door gives 0.
LEAST_PROGRAM = (1, (("m", (), (), (), (("go", "x", 1, ()),)),))


class Moment:
    """All of a bench at one moment. Nothing in it is ever changed: a deed makes a new one.

    plan is the program, begun the number, foreign the dict of what is laid, board what the machine began with, run
    the machine, marks the tuple of the rooms written into since it began, shelf the dict of the moments that are kept.
    """

    def __init__(self, plan, begun, foreign, board, run, marks, shelf):
        self.plan = plan
        self.begun = begun
        self.foreign = foreign
        self.board = board
        self.run = run
        self.marks = marks
        self.shelf = shelf


def fresh_moment(plan, begun, foreign, board, shelf):
    """The moment at which the machine has just begun."""
    return Moment(plan, begun, foreign, board, begun_run(board, begun), (), shelf)


def changed_moment(now, plan, foreign):
    """The moment at which the machine has just begun with another program, or other sections laid; TooLarge."""
    wires = all_wires(plan)
    sections = []
    for room, source in enumerate(plan[1]):
        if room in foreign:
            sections.append(foreign[room])
        # A room with the same text and wires keeps its section.
        elif room not in now.foreign and source == now.plan[1][room] and wires[room] == now.board[1][room]:
            sections.append(now.board[2][room])
        else:
            sections.append(section_with(source, wires[room], plan[0], room))
    return fresh_moment(plan, now.begun, foreign, (plan[0], wires, tuple(sections)), now.shelf)


def touched_rooms(moment):
    """The ascending tuple of the rooms that are touched."""
    return tuple(sorted(set(list(moment.foreign) + list(moment.marks))))


class Bench:
    """A program on the machine, begun with a number; a moment stands for the begin, and one behind each deed."""

    def __init__(self, program, number):
        need_program(program)
        need_number(number)
        self._first = (program, number)
        self._moments = [fresh_moment(program, number, {}, board_in(program, {}), {})]
        self._deeds = []

    def __len__(self):
        """How many deeds stand."""
        return len(self._deeds)

    def __eq__(self, other):
        """Whether both began alike and the same deeds stand."""
        return isinstance(other, Bench) and self._first == other._first and self._deeds == other._deeds

    @property
    def program(self):
        """The program now."""
        return self._moments[-1].plan

    @property
    def number(self):
        """The number with which the machine began."""
        return self._moments[-1].begun

    @property
    def laid(self):
        """The dict of the sections that are laid."""
        return dict(self._moments[-1].foreign)

    @property
    def touched(self):
        """The ascending tuple of the rooms for which a section is laid or whose section has been written into."""
        return touched_rooms(self._moments[-1])

    @property
    def row(self):
        """The list of the crossings."""
        return list(self._moments[-1].run.shown)

    @property
    def state(self):
        """The state of the machine."""
        return self._moments[-1].run.condition

    @property
    def steps(self):
        """How many steps the machine has done since it began."""
        return self._moments[-1].run.taken

    @property
    def kept(self):
        """The ascending list of the names by which moments are kept."""
        return sorted(list(self._moments[-1].shelf))

    @property
    def log(self):
        """The list of the deeds that stand."""
        return list(self._deeds)

    def go(self, steps):
        """The machine goes so many steps."""
        need_steps(steps)
        now = self._moments[-1]
        run = now.run.twin()
        run.go(steps)
        self._stand(("go", steps), Moment(now.plan, now.begun, now.foreign, now.board, run, now.marks, now.shelf))

    def write(self, room, address, number):
        """A cell of the section of a room becomes the number."""
        self._need_number_of_room(room)
        now = self._moments[-1]
        if not is_whole(address, 0, len(now.run.works[room].numbers) - 1):
            raise BadAddress("the value is no address of the section")
        need_number(number)
        run = now.run.twin()
        run.works[room].numbers[address] = number
        marks = now.marks if room in now.marks else (*now.marks, room)
        moment = Moment(now.plan, now.begun, now.foreign, now.board, run, marks, now.shelf)
        self._stand(("write", room, address, number), moment)

    def lay(self, room, section):
        """A section is laid for a room; the machine begins anew."""
        self._need_number_of_room(room)
        now = self._moments[-1]
        if not good_section(section) or len(section[1]) != len(now.plan[1][room][4]):
            raise BadSection("the value is no section that can stand for the room")
        self._stand(("lay", room, section), changed_moment(now, now.plan, {**now.foreign, room: section}))

    def recompile(self, room):
        """The section laid for a room goes; the machine begins anew."""
        self._need_number_of_room(room)
        now = self._moments[-1]
        if room not in now.foreign:
            raise NotLaid(room)
        self._stand(("recompile", room), changed_moment(now, now.plan, self._laid_but(room)))

    def rewrite(self, room, source):
        """A room gets another text, and what is laid for it goes; the machine begins anew."""
        self._need_number_of_room(room)
        need_room(source)
        now = self._moments[-1]
        sources = list(now.plan[1])
        sources[room] = source
        if not are_joined(sources):
            raise BadProgram("with this room in its place the program is none")
        self._stand(("rewrite", room, source), changed_moment(now, (now.plan[0], tuple(sources)), self._laid_but(room)))

    def begin(self, number):
        """The machine begins anew with this number."""
        need_number(number)
        now = self._moments[-1]
        self._stand(("begin", number), fresh_moment(now.plan, number, now.foreign, now.board, now.shelf))

    def settle(self):
        """The rooms that are touched or blamed are exchanged for rooms that did no harm, and the row is shown again."""
        now = self._moments[-1]
        row = self.row
        explanation = explanation_of(now.plan, row, touched_rooms(now), BLAME_STEPS)
        moment = changed_moment(now, explanation.last_program(), {})
        while len(moment.run.shown) < len(row):
            # Each time up to the next crossing: no step more.
            moment.run.advance(MOST_STEPS)
        self._stand(("settle",), moment)

    def keep(self, name):
        """This moment is kept by the name."""
        if not good_name(name):
            raise BadName("the value is no name")
        now = self._moments[-1]
        shelf = {**now.shelf, name: now}
        self._stand(("keep", name), Moment(now.plan, now.begun, now.foreign, now.board, now.run, now.marks, shelf))

    def back(self, name):
        """All is as at the moment that is kept by the name, but for what is kept."""
        now = self._moments[-1]
        if not isinstance(name, str) or name not in now.shelf:
            raise NotKept(name)
        then = now.shelf[name]
        moment = Moment(then.plan, then.begun, then.foreign, then.board, then.run, then.marks, now.shelf)
        self._stand(("back", name), moment)

    def undo(self):
        """Takes the last deed that stands back."""
        if len(self._deeds) == 0:
            raise NothingDone("there is no deed to take back")
        self._deeds.pop()
        self._moments.pop()

    def cells(self, room):
        """The tuple of the cells of a room's section as they are."""
        self._need_number_of_room(room)
        return tuple(self._moments[-1].run.works[room].numbers)

    def blames(self, steps=200000):
        """Who did harm, the touched rooms being foreign."""
        need_steps(steps)
        return explanation_of(self.program, self.row, self.touched, steps).found

    def row_at(self, at):
        """The row as it was when the first deeds, so many of them, had been done."""
        if not is_whole(at, 0, len(self._deeds)):
            raise BadMoment("the value is no moment of the bench")
        return list(self._moments[at].run.shown)

    def copy(self):
        """An independent bench, equal to this one."""
        # Any program will do: nothing of it stays.
        other = Bench(LEAST_PROGRAM, 0)
        other._first = self._first
        other._moments = list(self._moments)
        other._deeds = list(self._deeds)
        return other

    def tried(self, task):
        """What the task returns for the bench; if an error leaves it, all is as ahead."""
        moments = list(self._moments)
        deeds = list(self._deeds)
        over = None
        try:
            result = task(self)
            over = True
        finally:
            if over is None:
                self._moments = moments
                self._deeds = deeds
        return result

    def _need_number_of_room(self, room):
        """BadRoomNumber for what is no number of a room of the program."""
        need_room_number(room, len(self._moments[-1].plan[1]))

    def _laid_but(self, room):
        """A new dict of what is laid for the other rooms."""
        foreign = self._moments[-1].foreign
        return {other: foreign[other] for other in foreign if other != room}

    def _stand(self, deed, moment):
        """A deed is done: from now on the bench is at this moment."""
        self._deeds.append(deed)
        self._moments.append(moment)
