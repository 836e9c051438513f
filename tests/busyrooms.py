"""Rooms drawn for changes: small numbers, few names, statements that have to do with one another."""

NAMES = ["x", "y", "z", "b"]
OPERATORS = ["plus", "minus", "times", "rest", "less", "same"]
BLOCKS = (("b", (0, None, 5)), ("c", (7, 1)), ("x", (3,)))
OTHER = ("o", (("m", "p"),), (), (), (
    ("d", "k", 10000, (("give", ("plus", ("local", "k"), ("number", 2))),)),
    ("e", "k", 3, (("if", ("less", ("local", "k"), ("number", 2)), (("give", ("ask", "m", "p", ("local", "k"))),), ()),)),
))


class BusyDrawer:
    def __init__(self, rng, functions, loud):
        self.rng = rng
        self.functions = functions
        self.loud = loud
        self.left = 0

    def number(self):
        return ("number", self.rng.choice([0, 0, 1, 1, 2, 3, 9999]))

    def cell(self, depth):
        block = self.rng.choice(BLOCKS)[0]
        if self.rng.random() < 0.85:
            self.left -= 2
            return ("cell", block, ("number", self.rng.randrange(2) if block != "x" else 0))
        return ("cell", block, self.value(depth + 1))

    def value(self, depth):
        self.left -= 1
        kind = self.rng.random()
        if depth > 7 or self.left < 0 or kind < 0.3:
            return self.number()
        if kind < 0.5:
            return ("local", self.rng.choice(NAMES))
        if kind < 0.7:
            return self.cell(depth)
        if kind < 0.7 + self.loud and self.functions:
            function = self.rng.choice(self.functions)
            return ("run", function[0], tuple(self.value(depth + 1) for _ in function[1]))
        if kind < 0.7 + 1.3 * self.loud:
            return ("ask", "o", self.rng.choice(["d", "e"]), self.value(depth + 1))
        return (self.rng.choice(OPERATORS), self.value(depth + 1), self.value(depth + 1))

    def statement(self, depth, in_function):
        self.left -= 1
        kind = self.rng.random()
        if kind < 0.4:
            if self.functions and self.rng.random() < 0.3:
                function = self.rng.choice(self.functions)
                value = ("run", function[0], tuple(self.value(depth + 2) for _ in function[1]))
            else:
                value = self.cell(depth + 1) if self.rng.random() < 0.5 else self.value(depth + 1)
            return ("let", self.rng.choice(NAMES), value)
        if kind < 0.7:
            block = self.rng.choice(BLOCKS[:2])[0]
            index = ("number", self.rng.randrange(2)) if self.rng.random() < 0.85 else self.value(depth + 1)
            return ("store", block, index, self.value(depth + 1))
        if kind < 0.74 and not in_function:
            return self.rng.choice([("stop",), ("give", self.value(depth + 1))])
        if depth > 5:
            return ("let", "y", self.value(depth + 1))
        test = self.number() if self.rng.random() < 0.3 else self.value(depth + 1)
        if kind < 0.86:
            if self.rng.random() < 0.6:
                # One that often comes to an end.
                count = ("let", "x", ("rest", ("minus", ("local", "x"), ("number", 1)), ("number", 4)))
                return ("while", ("local", "x"), self.body(depth + 1, in_function) + (count,))
            return ("while", test, self.body(depth + 1, in_function))
        return ("if", test, self.body(depth + 1, in_function), self.body(depth + 1, in_function))

    def body(self, depth, in_function):
        found = []
        while self.left > 0 and self.rng.random() < (0.9 if depth == 1 else 0.7):
            found.append(self.statement(depth, in_function))
        return tuple(found)


def draw_busy_room(rng, most=40):
    """A room m that imports the doors of OTHER."""
    loud = rng.choice([0, 0.05, 0.15])
    functions = []
    for name in ["f", "g", "h"][:rng.randrange(4)]:
        drawer = BusyDrawer(rng, list(functions), loud)
        drawer.left = most // 3
        params = tuple(rng.sample(NAMES + ["t0"], rng.randrange(3)))
        body = drawer.body(1, rng.random() < 0.7)
        if rng.random() < 0.7:
            body += (("give", drawer.value(2)),)
        functions.append((name, params, body))
    doors = []
    for name in ["p", "q"]:
        drawer = BusyDrawer(rng, functions, loud)
        drawer.left = most
        ahead = tuple(("let", one, ("number", 1)) for one in NAMES[1:] if rng.random() < 0.8)
        doors.append((name, rng.choice(["x", "x", "t1"]), rng.choice([3, 10000]), ahead + drawer.body(1, False)))
    return ("m", (("o", "d"), ("o", "e")), BLOCKS, tuple(functions), tuple(doors))


def busy_program(source):
    """A program in which the room has number 1 and is asked by others."""
    first = ("first", (("m", "p"), ("m", "q")), (("s", (0,)),), (), (("go", "k", 10000, (
        ("while", ("less", ("cell", "s", ("number", 0)), ("number", 6)), (
            ("store", "s", ("number", 0), ("plus", ("cell", "s", ("number", 0)), ("number", 1))),
            ("let", "v", ("ask", "m", "p", ("plus", ("local", "k"), ("cell", "s", ("number", 0))))),
            ("let", "w", ("ask", "m", "q", ("local", "v"))))),
        ("give", ("plus", ("local", "v"), ("local", "w"))))),))
    return (3, (first, source, OTHER))
