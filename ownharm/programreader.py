"""Reads the text of a program: its depth, the heads of its rooms and of what stands in them."""

from ownharm.bodyreader import BodyReader
from ownharm.errors import BadText
from ownharm.kinds import MODULUS, MOST_DOORS, MOST_IMPORTS, MOST_OPEN, MOST_ROOMS
from ownharm.roomcheck import MOST_BLOCKS, MOST_FUNCTIONS, MOST_PARAMS, MOST_SIZE, MOST_VALUES, doors_of
from ownharm.tokens import END, text_end, token_lines

# What stands in a room stands in this sequence; of "uses" there is one line at most.
SEQUENCE = {"uses": 1, "block": 2, "function": 3, "door": 4}
HEAD_INDENT = 2


class RoomReader:
    """Reads the lines of one room behind its first one."""

    def __init__(self, name):
        self.name = name
        self.imports = []
        self.blocks = []
        self.functions = []
        self.doors = []
        self.params = {}
        self.stage = 0
        self.head = None
        self.reader = None

    def finished(self, line):
        """The room, the line being one behind it."""
        self.end_part(line)
        if not self.doors:
            line.fail()
        return (self.name, tuple(self.imports), tuple(self.blocks), tuple(self.functions), tuple(self.doors))

    def end_part(self, line):
        """Ends the part whose lines are read, if there is one; the line is one behind it."""
        if self.reader is None:
            return
        part = (*self.head, self.reader.body(line))
        self.reader = None
        if len(part) == 3:
            self.functions.append(part)
            self.params[part[0]] = len(part[1])
        else:
            self.doors.append(part)

    def begin_part(self, head):
        """The lines of the body of a part with this head follow."""
        self.head = head
        self.reader = BodyReader(self.imports, [block[0] for block in self.blocks], self.params)

    def read(self, line):
        """Reads a line of the room; a list of the imports in it, with their places."""
        found = []
        if line.indent != HEAD_INDENT:
            if self.reader is None:
                line.fail()
            self.reader.read(line)
            return found
        self.end_part(line)
        word = line.word()
        stage = SEQUENCE.get(word, 0)
        if stage < self.stage or stage == 0 or (stage == 1 and self.stage == 1):
            line.fail()
        self.stage = stage
        if word == "uses":
            found = self.read_uses(line)
        elif word == "block":
            self.read_block(line)
        elif word == "function":
            self.read_function(line)
        else:
            self.read_door(line)
        line.end()
        return found

    def read_uses(self, line):
        """Reads the imports; the list of them with the places of the words of their rooms."""
        line.take("uses")
        found = []
        while line.word() != END or not found:
            place = line.place()
            if len(found) == MOST_IMPORTS:
                line.fail()
            room = line.take_name([self.name])
            line.take(".")
            door = line.take_name([told[1] for told in self.imports if told[0] == room])
            self.imports.append((room, door))
            found.append(((room, door), place))
        return found

    def read_block(self, line):
        """Reads a block."""
        if len(self.blocks) == MOST_BLOCKS:
            line.fail()
        line.take("block")
        name = line.take_name([block[0] for block in self.blocks])
        found = []
        while line.word() != END or not found:
            if len(found) == MOST_VALUES:
                line.fail()
            if line.word() == "-":
                line.take("-")
                found.append(None)
            else:
                found.append(line.take_whole(0, MODULUS - 1))
        self.blocks.append((name, tuple(found)))

    def part_names(self):
        """The names of the parts ahead."""
        return [part[0] for part in self.functions + self.doors]

    def read_function(self, line):
        """Reads the head of a function."""
        if len(self.functions) == MOST_FUNCTIONS:
            line.fail()
        line.take("function")
        name = line.take_name(self.part_names())
        found = []
        while line.word() != END:
            if len(found) == MOST_PARAMS:
                line.fail()
            found.append(line.take_name(found))
        self.begin_part((name, tuple(found)))

    def read_door(self, line):
        """Reads the head of a door."""
        if len(self.doors) == MOST_DOORS:
            line.fail()
        line.take("door")
        name = line.take_name(self.part_names())
        param = line.take_name([])
        size = line.take_whole(1, MOST_SIZE)
        self.begin_part((name, param, size))


class ProgramReader:
    """Reads the lines of a program."""

    def __init__(self):
        self.depth = None
        self.rooms = []
        self.reader = None
        self.imports = []

    def read(self, line):
        """Reads a line with tokens."""
        if self.depth is None:
            self.read_depth(line)
        elif line.indent == 0:
            self.read_room(line)
        elif self.reader is None:
            line.fail()
        else:
            self.imports.extend(self.reader.read(line))

    def read_depth(self, line):
        """Reads the first line."""
        if line.indent > 0:
            line.fail()
        line.take("depth")
        self.depth = line.take_whole(1, MOST_OPEN)
        line.end()

    def read_room(self, line):
        """Reads the first line of a room."""
        self.end_room(line)
        if len(self.rooms) == MOST_ROOMS:
            line.fail()
        line.take("room")
        name = line.take_name([room[0] for room in self.rooms])
        line.end()
        self.reader = RoomReader(name)

    def end_room(self, line):
        """Ends the room whose lines are read, if there is one; the line is one behind it."""
        if self.reader is not None:
            self.rooms.append(self.reader.finished(line))
        self.reader = None

    def whole(self, end):
        """The program, the end of the text being the line behind it."""
        self.end_room(end)
        if not self.rooms:
            end.fail()
        doors = doors_of(self.rooms)
        for pair, place in self.imports:
            if pair not in doors:
                raise BadText(place[0], place[1])
        return (self.depth, tuple(self.rooms))


def read_program(text):
    """The program whose text it is; BadText with the place of the first token that cannot stand."""
    reader = ProgramReader()
    for line in token_lines(text):
        reader.read(line)
    return reader.whole(text_end(text))
