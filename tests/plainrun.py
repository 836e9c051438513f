"""Runs of programs by plain recursion, written from the document alone and apart from the package.

Every step that is done leaves a moment (row, cells of all rooms, control, state); index k is behind k steps.
"""


class Over(Exception):
    """The run has ended, or enough steps are done."""


class Given(Exception):
    """A running gives a number."""

    def __init__(self, number):
        self.number = number


def numbered(body, count=0):
    """Statements as [index, word, *rest], expressions likewise; the count behind them."""
    found = []
    for statement in body:
        node, count = numbered_node(statement, count)
        found.append(node)
    return found, count


def numbered_node(node, count):
    out = [count, node[0]]
    count += 1
    word = node[0]
    values = {"let": [2], "store": [2, 3], "if": [1], "while": [1], "give": [1], "cell": [2], "ask": [3]}
    values.update({sign: [1, 2] for sign in ("plus", "minus", "times", "rest", "less", "same")})
    bodies = {"if": [2, 3], "while": [2]}
    for at in range(1, len(node)):
        if at in values.get(word, []):
            inner, count = numbered_node(node[at], count)
        elif at in bodies.get(word, []) or (word == "run" and at == 2):
            inner, count = numbered(node[at], count)
        else:
            inner = node[at]
        out.append(inner)
    return out, count


class PlainRun:
    def __init__(self, program, number, most):
        self.depth, rooms = program
        self.names = [room[0] for room in rooms]
        self.rooms = rooms
        self.cells = [{name: list(values) for name, values in room[2]} for room in rooms]
        self.parts = []
        for room in rooms:
            table = {}
            for part in room[3] + room[4]:
                table[part[0]] = (part, numbered(part[-1]))
            self.parts.append(table)
        self.row = [("start", number)]
        self.control = 0
        self.state = "running"
        self.fault = None
        self.waiting = 0
        self.most = most
        self.moments = []
        self.note()
        try:
            value = self.door(0, 0, number)
            self.row.append(("done", value))
            self.end("done")
        except Over:
            pass

    def note(self):
        cells = [{name: list(values) for name, values in room.items()} for room in self.cells]
        self.moments.append((list(self.row), cells, self.control, self.state))
        if len(self.moments) > self.most:
            raise Over()

    def end(self, state):
        self.state = state
        self.control = None
        self.note()
        raise Over()

    def undefined(self, room, part, at):
        self.state = "undefined"
        self.fault = (room, (part, at))
        raise Over()

    def door(self, room, door, number):
        told = self.rooms[room][4][door]
        return self.running(room, told[0], {told[1]: number % told[2]}, True)

    def running(self, room, name, known, is_door):
        _, (body, count) = self.parts[room][name]
        try:
            self.body(room, name, body, known)
            value = 0
        except Given as given:
            value = given.number
        # The step of the give of a door is its crossing: it is noted by whoever is answered.
        if not is_door:
            self.note()
        return value

    def body(self, room, part, body, known):
        for statement in body:
            self.statement(room, part, statement, known)

    def statement(self, room, part, node, known):
        at, word = node[:2]
        if word == "let":
            known[node[2]] = self.value(room, part, node[3], known)
            self.note()
        elif word == "store":
            index = self.value(room, part, node[3], known)
            value = self.value(room, part, node[4], known)
            block = self.cells[room][node[2]]
            if index >= len(block):
                self.undefined(room, part, at)
            block[index] = value
            self.note()
        elif word == "if":
            test = self.value(room, part, node[2], known)
            self.note()
            self.body(room, part, node[3] if test else node[4], known)
        elif word == "while":
            while True:
                test = self.value(room, part, node[2], known)
                self.note()
                if not test:
                    break
                self.body(room, part, node[3], known)
        elif word == "give":
            raise Given(self.value(room, part, node[2], known))
        else:
            self.row.append(("end", room))
            self.end("end")

    def value(self, room, part, node, known):
        at, word = node[:2]
        if word == "ask":
            return self.ask(room, part, node, known)
        if word == "run":
            arguments = [self.value(room, part, inner, known) for inner in node[3]]
            told, _ = self.parts[room][node[2]]
            self.note()
            return self.running(room, node[2], dict(zip(told[1], arguments)), False)
        result = self.plain(room, part, node, known)
        if result is None:
            self.undefined(room, part, at)
        self.note()
        return result

    def plain(self, room, part, node, known):
        word = node[1]
        if word == "number":
            return node[2]
        if word == "local":
            return known.get(node[2])
        if word == "cell":
            index = self.value(room, part, node[3], known)
            block = self.cells[room][node[2]]
            return block[index] if index < len(block) else None
        one = self.value(room, part, node[2], known)
        other = self.value(room, part, node[3], known)
        if word == "rest" and other == 0:
            return None
        return {
            "plus": (one + other) % 10000, "minus": (one - other) % 10000, "times": one * other % 10000,
            "rest": one % (other or 1), "less": int(one < other), "same": int(one == other),
        }[word]

    def ask(self, room, part, node, known):
        number = self.value(room, part, node[4], known)
        asked = self.names.index(node[2])
        door = [told[0] for told in self.rooms[asked][4]].index(node[3])
        if self.waiting == self.depth:
            self.row.append(("deep", room, asked, door, number))
            self.end("deep")
        self.row.append(("call", room, asked, door, number))
        self.waiting += 1
        self.control = asked
        self.note()
        value = self.door(asked, door, number)
        self.row.append(("back", asked, room, value))
        self.waiting -= 1
        self.control = room
        self.note()
        return value
