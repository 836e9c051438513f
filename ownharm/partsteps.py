"""The steps of a part in a row: each one with its place and the step behind it."""

from ownharm.syntax import OPERATORS, nodes_in


def params_of(part):
    """The tuple of the params of a function or a door."""
    if len(part) == 3:
        return part[1]
    return (part[1],)


def local_names(part):
    """The list of the names of the locals of a part: its params, then the others by their first node."""
    names = list(params_of(part))
    for node in nodes_in(part[-1]):
        if (node[0] == "let" or node[0] == "local") and node[1] not in names:
            names.append(node[1])
    return names


class PartCode:
    """The steps of a part, and how many locals it has.

    A step is a tuple (word, at, behind, one, two): at is the index of its node, behind that of the
    step done next, one and two are what the word needs; for an if or a while that finds 0, one is
    the step done next.
    """

    def __init__(self, name, many, ops):
        self.name = name
        self.many = many
        self.ops = ops


class StepLayer:
    """Lays the steps of one part in a row; wires is a dict from the pairs of the imports to numbers."""

    def __init__(self, source, part, wires):
        self.names = local_names(part)
        self.blocks = [block[0] for block in source[2]]
        self.wires = wires
        self.ops = []
        self.nodes = 0

    def take_node(self):
        """The index of the next node."""
        self.nodes += 1
        return self.nodes - 1

    def put(self, word, at, one, two):
        """Lays a step behind those laid; its index."""
        self.ops.append((word, at, len(self.ops) + 1, one, two))
        return len(self.ops) - 1

    def put_jump(self, target):
        """Lays what is no step: it only tells where to go on."""
        self.ops.append(("jump", None, target, None, None))

    def end_test(self, index):
        """Where a test laid at the index finds 0, it goes on at what is laid next."""
        word, at, behind, _, two = self.ops[index]
        self.ops[index] = (word, at, behind, len(self.ops), two)

    def lay_value(self, value):
        """Lays the steps of an expression."""
        at = self.take_node()
        word = value[0]
        if word == "number":
            self.put(word, at, value[1], None)
        elif word == "local":
            self.put(word, at, self.names.index(value[1]), None)
        elif word == "cell":
            self.lay_value(value[2])
            self.put(word, at, self.blocks.index(value[1]), None)
        elif word == "run":
            for argument in value[2]:
                self.lay_value(argument)
            self.put(word, at, value[1], len(value[2]))
        elif word == "ask":
            self.lay_value(value[3])
            room, door = self.wires[(value[1], value[2])]
            self.put(word, at, room, door)
        elif word in OPERATORS:
            self.lay_value(value[1])
            self.lay_value(value[2])
            self.put(word, at, None, None)

    def lay_statement(self, statement):
        """Lays the steps of a statement and of all that stands in it."""
        at = self.take_node()
        word = statement[0]
        if word == "let":
            self.lay_value(statement[2])
            self.put(word, at, self.names.index(statement[1]), None)
        elif word == "store":
            self.lay_value(statement[2])
            self.lay_value(statement[3])
            self.put(word, at, self.blocks.index(statement[1]), None)
        elif word == "if":
            self.lay_if(statement, at)
        elif word == "while":
            self.lay_while(statement, at)
        elif word == "give":
            self.lay_value(statement[1])
            self.put(word, at, None, None)
        else:
            self.put(word, at, None, None)

    def lay_if(self, statement, at):
        """Lays an if, whose index is at."""
        self.lay_value(statement[1])
        test = self.put("if", at, None, None)
        self.lay_body(statement[2])
        leap = len(self.ops)
        self.put_jump(None)
        self.end_test(test)
        self.lay_body(statement[3])
        self.ops[leap] = ("jump", None, len(self.ops), None, None)

    def lay_while(self, statement, at):
        """Lays a while, whose index is at."""
        begin = len(self.ops)
        self.lay_value(statement[1])
        test = self.put("while", at, None, None)
        self.lay_body(statement[2])
        self.put_jump(begin)
        self.end_test(test)

    def lay_body(self, body):
        """Lays the steps of a body."""
        for statement in body:
            self.lay_statement(statement)

    def past_jumps(self, index):
        """The index of the step that is done where it goes on at this one."""
        while self.ops[index][0] == "jump":
            index = self.ops[index][2]
        return index

    def joined_step(self, op):
        """The step with the jumps behind it gone already."""
        word, at, behind, one, two = op
        if word == "give" or word == "stop" or word == "end":
            return op
        if word == "if" or word == "while":
            one = self.past_jumps(one)
        return (word, at, self.past_jumps(behind), one, two)


def part_code(source, part, wires):
    """The code of a part of a room."""
    layer = StepLayer(source, part, wires)
    layer.lay_body(part[-1])
    layer.put("end", layer.nodes, None, None)
    return PartCode(part[0], len(layer.names), [layer.joined_step(op) for op in layer.ops])
