"""The steps of a part in a row: each one with its place and the step behind it."""

from ownharm.partshape import params_of


class PartCode:
    """The steps of a part, and how many locals it has.

    A step is a tuple (word, at, behind, one, two): at is the index of its node, behind that of the
    step done next, one and two are what the word needs. The words are those of the nodes, "end", "pair" for all
    signs, with the sign as one, and "test" for an if or a while: where it finds 0, one is the step done next.
    """

    def __init__(self, name, many, ops):
        self.name = name
        self.many = many
        self.ops = ops


class StepLayer:
    """Lays the steps of one part in a row; wires is a dict from the pairs of the imports to numbers.

    names is the dict from the names of the locals met so far to their numbers. jumps are the indices of what is no
    step and only tells where to go on, tests those of the tests.
    """

    def __init__(self, source, part, wires):
        self.names = {name: at for at, name in enumerate(params_of(part))}
        self.blocks = {block[0]: at for at, block in enumerate(source[2])}
        self.wires = wires
        self.ops = []
        self.nodes = 0
        self.jumps = []
        self.tests = []

    def put(self, word, at, one, two):
        """Lays a step behind those laid."""
        self.ops.append((word, at, len(self.ops) + 1, one, two))

    def put_jump(self, target):
        """Lays a jump."""
        self.jumps.append(len(self.ops))
        self.ops.append(("jump", None, target, None, None))

    def end_test(self, index):
        """Where a test laid at the index finds 0, it goes on at what is laid next."""
        word, at, behind, _, two = self.ops[index]
        self.ops[index] = (word, at, behind, len(self.ops), two)
        self.tests.append(index)

    def lay_value(self, value):
        """Lays the steps of an expression."""
        at = self.nodes
        self.nodes += 1
        word = value[0]
        if word == "number":
            self.put(word, at, value[1], None)
        elif word == "local":
            self.put(word, at, self.names.setdefault(value[1], len(self.names)), None)
        elif word == "cell":
            self.lay_value(value[2])
            self.put(word, at, self.blocks[value[1]], None)
        elif word == "run":
            for argument in value[2]:
                self.lay_value(argument)
            self.put(word, at, value[1], len(value[2]))
        elif word == "ask":
            self.lay_value(value[3])
            room, door = self.wires[(value[1], value[2])]
            self.put(word, at, room, door)
        else:
            self.lay_value(value[1])
            self.lay_value(value[2])
            self.put("pair", at, word, None)

    def lay_body(self, body):
        """Lays the steps of a body."""
        for statement in body:
            at = self.nodes
            self.nodes += 1
            word = statement[0]
            if word == "let":
                # The local is met ahead of the expression.
                local = self.names.setdefault(statement[1], len(self.names))
                self.lay_value(statement[2])
                self.put(word, at, local, None)
            elif word == "store":
                self.lay_value(statement[2])
                self.lay_value(statement[3])
                self.put(word, at, self.blocks[statement[1]], None)
            elif word == "if":
                self.lay_if(statement, at)
            elif word == "while":
                self.lay_while(statement, at)
            else:
                if word == "give":
                    self.lay_value(statement[1])
                self.put(word, at, None, None)

    def lay_if(self, statement, at):
        """Lays an if, whose index is at."""
        self.lay_value(statement[1])
        test = len(self.ops)
        self.put("test", at, None, None)
        self.lay_body(statement[2])
        leap = len(self.ops)
        self.put_jump(None)
        self.end_test(test)
        self.lay_body(statement[3])
        self.ops[leap] = ("jump", None, len(self.ops), None, None)

    def lay_while(self, statement, at):
        """Lays a while, whose index is at."""
        begin = len(self.ops)
        self.lay_value(statement[1])
        test = len(self.ops)
        self.put("test", at, None, None)
        self.lay_body(statement[2])
        self.put_jump(begin)
        self.end_test(test)

    def past_jumps(self, index):
        """The index of the step that is done where it goes on at this one."""
        while self.ops[index][0] == "jump":
            index = self.ops[index][2]
        return index

    def join(self):
        """Takes the jumps out of the ways: nothing leads to one any more."""
        for index in self.tests:
            word, at, behind, one, two = self.ops[index]
            self.ops[index] = (word, at, behind, self.past_jumps(one), two)
        for index in self.jumps:
            # Of what is laid one behind another only this leads to the jump.
            word, at, _, one, two = self.ops[index - 1]
            self.ops[index - 1] = (word, at, self.past_jumps(index), one, two)


def part_code(source, part, wires):
    """The code of a part of a room."""
    layer = StepLayer(source, part, wires)
    layer.lay_body(part[-1])
    layer.put("end", layer.nodes, None, None)
    layer.join()
    return PartCode(part[0], len(layer.names), layer.ops)
