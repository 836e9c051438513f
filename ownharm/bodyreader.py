"""Reads the body of a part: its statements line by line, their expressions token by token."""

from ownharm.kinds import MODULUS, are_digits
from ownharm.roomcheck import MOST_DEPTH, MOST_NODES
from ownharm.syntax import SIGN_WORDS

BODY_INDENT = 4


class OpenBody:
    """The statements read so far of the body of a part, or of an if or a while and its test."""

    def __init__(self, kind, test):
        self.kind = kind
        self.test = test
        self.first = []
        self.second = []
        self.in_second = False

    def put(self, statement):
        """One statement more."""
        if self.in_second:
            self.second.append(statement)
        else:
            self.first.append(statement)

    def statement(self):
        """The if or while with the statements read."""
        if self.kind == "if":
            return ("if", self.test, tuple(self.first), tuple(self.second))
        return ("while", self.test, tuple(self.first))


class BodyReader:
    """Reads the lines of the body of one part of a room."""

    def __init__(self, imports, blocks, params):
        self.imports = imports
        self.blocks = blocks
        self.params = params
        self.bodies = [OpenBody("part", None)]
        self.bare_else = False
        self.many = 0

    def body(self, line):
        """The whole body, the line being one behind it."""
        if self.bare_else:
            line.fail()
        self.shut(0)
        return tuple(self.bodies[0].first)

    def shut(self, level):
        """Ends all bodies that stand deeper than this level; 0 is that of the part's body."""
        while len(self.bodies) > level + 1:
            done = self.bodies.pop()
            self.bodies[-1].put(done.statement())

    def read(self, line):
        """Reads a line with a statement or an else."""
        level = (line.indent - BODY_INDENT) // 2
        if line.indent % 2 == 1 or not 0 <= level < len(self.bodies):
            line.fail()
        # Behind an else only a statement of its own body can stand.
        if self.bare_else and level < len(self.bodies) - 1:
            line.fail()
        if line.word() == "else":
            self.read_else(line, level)
        else:
            self.bare_else = False
            self.shut(level)
            self.read_statement(line, level + 1)
        line.end()

    def read_else(self, line, level):
        """Reads an else; its if is the last statement of this level and still has none."""
        if level + 1 >= len(self.bodies):
            line.fail()
        owner = self.bodies[level + 1]
        if owner.kind != "if" or owner.in_second:
            line.fail()
        line.take("else")
        self.shut(level + 1)
        owner.in_second = True
        self.bare_else = True

    def add_node(self, line, depth):
        """Counts a node that begins with the next token."""
        self.many += 1
        if self.many > MOST_NODES or depth > MOST_DEPTH:
            line.fail()

    def read_statement(self, line, depth):
        """Reads a statement and puts it, or opens the body that it begins."""
        self.add_node(line, depth)
        word = line.word()
        if word == "if" or word == "while":
            line.take(word)
            self.bodies.append(OpenBody(word, self.read_value(line, depth + 1)))
        elif word == "stop":
            line.take(word)
            self.bodies[-1].put(("stop",))
        elif word == "give":
            line.take(word)
            self.bodies[-1].put(("give", self.read_value(line, depth + 1)))
        else:
            self.bodies[-1].put(self.read_setting(line, depth))

    def read_setting(self, line, depth):
        """Reads a let or a store."""
        name = line.take_name([])
        if line.word() == "[" and name in self.blocks:
            index = self.read_index(line, depth)
            line.take("=")
            return ("store", name, index, self.read_value(line, depth + 1))
        line.take("=")
        return ("let", name, self.read_value(line, depth + 1))

    def read_index(self, line, depth):
        """Reads the index in brackets of a node of this depth."""
        line.take("[")
        index = self.read_value(line, depth + 1)
        line.take("]")
        return index

    def read_value(self, line, depth):
        """Reads an expression."""
        self.add_node(line, depth)
        word = line.word()
        if word == "(":
            return self.read_pair(line, depth)
        if are_digits(word):
            return ("number", line.take_whole(0, MODULUS - 1))
        name = line.take_name([])
        following = line.word()
        if following == "[" and name in self.blocks:
            return ("cell", name, self.read_index(line, depth))
        if following == "(" and name in self.params:
            return ("run", name, self.read_arguments(line, self.params[name], depth))
        if following == "." and name in [pair[0] for pair in self.imports]:
            return self.read_ask(line, name, depth)
        return ("local", name)

    def read_pair(self, line, depth):
        """Reads two operands in brackets with a sign between them."""
        line.take("(")
        one = self.read_value(line, depth + 1)
        sign = line.word()
        if sign not in SIGN_WORDS:
            line.fail()
        line.skip()
        other = self.read_value(line, depth + 1)
        line.take(")")
        return (SIGN_WORDS[sign], one, other)

    def read_arguments(self, line, many, depth):
        """Reads so many arguments in brackets."""
        line.take("(")
        found = []
        for at in range(many):
            if at > 0:
                line.take(",")
            found.append(self.read_value(line, depth + 1))
        line.take(")")
        return tuple(found)

    def read_ask(self, line, room, depth):
        """Reads the door of an ask of a room, and its argument."""
        line.take(".")
        door = line.word()
        if (room, door) not in self.imports:
            line.fail()
        line.skip()
        line.take("(")
        argument = self.read_value(line, depth + 1)
        line.take(")")
        return ("ask", room, door, argument)
