"""A room alone, step by step with the place of each one, written from the document alone and apart from the package.

Each running of a door is a generator. It tells ("step", place) or ("undefined", place) ahead of a step, and is
sent on to do it; an ask then tells ("calls", ..) and is sent the answer, a stop tells ("ends",).
"""

from plainrun import numbered


class PlainRoom:
    def __init__(self, program, room):
        names = [other[0] for other in program[1]]
        doors = {other[0]: [door[0] for door in other[4]] for other in program[1]}
        self.source = program[1][room]
        self.wires = {pair: (names.index(pair[0]), doors[pair[0]].index(pair[1])) for pair in self.source[1]}
        self.cells = {name: list(values) for name, values in self.source[2]}
        self.parts = {part[0]: (part, *numbered(part[-1])) for part in self.source[3] + self.source[4]}
        self.runnings = []
        self.about = None

    def begin(self, door, number):
        name, param, size, _ = self.source[4][door]
        self.runnings.append(self.running(name, {param: number % size}))
        self.about = next(self.runnings[-1])

    def answer(self, number):
        self.about = self.runnings[-1].send(number)

    def come_in(self, event):
        if event[0] == "in":
            self.begin(event[1], event[2])
        else:
            self.answer(event[1])

    def do_step(self):
        """Does the step that is told; the act, or None."""
        assert self.about[0] == "step"
        try:
            told = self.runnings[-1].send(None)
        except StopIteration as stopped:
            self.runnings.pop()
            return ("gives", stopped.value)
        if told[0] in ("calls", "ends"):
            return told
        self.about = told
        return None

    def act_within(self, steps):
        """The act, or ("undefined", part, at), in so many tries; None if there is none; and how many were done."""
        for done in range(steps):
            if self.about[0] == "undefined":
                return ("undefined", *self.about[1]), done
            act = self.do_step()
            if act is not None:
                return act, done + 1
        return None, steps

    def running(self, name, known):
        _, body, count = self.parts[name]
        given = yield from self.body(name, body, known)
        if given is None:
            yield ("step", (name, count))
            return 0
        return given

    def body(self, part, body, known):
        for statement in body:
            given = yield from self.statement(part, statement, known)
            if given is not None:
                return given
        return None

    def statement(self, part, node, known):
        at, word = node[:2]
        place = (part, at)
        if word == "let":
            value = yield from self.value(part, node[3], known)
            yield ("step", place)
            known[node[2]] = value
        elif word == "store":
            index = yield from self.value(part, node[3], known)
            value = yield from self.value(part, node[4], known)
            block = self.cells[node[2]]
            yield ("step" if index < len(block) else "undefined", place)
            block[index] = value
        elif word == "if":
            test = yield from self.value(part, node[2], known)
            yield ("step", place)
            return (yield from self.body(part, node[3] if test else node[4], known))
        elif word == "while":
            while True:
                test = yield from self.value(part, node[2], known)
                yield ("step", place)
                if not test:
                    return None
                given = yield from self.body(part, node[3], known)
                if given is not None:
                    return given
        elif word == "give":
            value = yield from self.value(part, node[2], known)
            yield ("step", place)
            return value
        else:
            yield ("step", place)
            yield ("ends",)
        return None

    def value(self, part, node, known):
        at, word = node[:2]
        place = (part, at)
        if word == "number":
            yield ("step", place)
            return node[2]
        if word == "local":
            yield ("step" if node[2] in known else "undefined", place)
            return known[node[2]]
        if word == "cell":
            index = yield from self.value(part, node[3], known)
            block = self.cells[node[2]]
            yield ("step" if index < len(block) and block[index] is not None else "undefined", place)
            return block[index]
        if word == "ask":
            number = yield from self.value(part, node[4], known)
            yield ("step", place)
            return (yield ("calls", *self.wires[(node[2], node[3])], number))
        if word == "run":
            arguments = []
            for inner in node[3]:
                arguments.append((yield from self.value(part, inner, known)))
            yield ("step", place)
            return (yield from self.running(node[2], dict(zip(self.parts[node[2]][0][1], arguments))))
        one = yield from self.value(part, node[2], known)
        other = yield from self.value(part, node[3], known)
        yield ("undefined" if word == "rest" and other == 0 else "step", place)
        return {
            "plus": (one + other) % 10000, "minus": (one - other) % 10000, "times": one * other % 10000,
            "rest": one % (other or 1), "less": int(one < other), "same": int(one == other),
        }[word]
