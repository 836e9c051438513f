"""Small rooms, wishes about them and plays, drawn from a seed: few numbers, many asks, traps at rare moments."""

from ownharm.rooms import is_room

BLOCKS = (("s", (0,)), ("b", (1, None)))
IMPORTS = (("o", "p"), ("o", "q"))
UNDEFINED = ("give", ("cell", "b", ("number", 9)))


def number(worth):
    return ("number", worth)


def add_to(block, worth, rest):
    """The statement that adds to the cell 0 of a block, modulo a number."""
    return ("store", block, number(0), ("rest", ("plus", ("cell", block, number(0)), number(worth)), number(rest)))


class SmallDrawer:
    """Draws bodies over the locals x, y, z and the blocks s, b; harm is how often something undefined is drawn.

    trap is a statement that is put at one place, behind tests that are seldom met, or None.
    """

    def __init__(self, rng, imports, functions, harm, most=3):
        self.rng = rng
        self.imports = imports
        self.functions = functions
        self.harm = harm
        self.most = most

    def number(self, most=3):
        return number(self.rng.randrange(most))

    def ask(self):
        room, door = self.rng.choice(self.imports)
        asked = self.leaf() if self.rng.random() < 0.5 else self.number()
        return ("rest", ("ask", room, door, asked), number(self.rng.choice([1, 2, 2, 3])))

    def leaf(self):
        kind = self.rng.random()
        if kind < 0.35:
            return ("local", self.rng.choice(["x", "y", "z"]))
        if kind < 0.6:
            return ("cell", "s", number(0))
        if kind < 0.7:
            return ("cell", "b", number(0))
        return self.number()

    def value(self):
        kind = self.rng.random()
        if kind < 0.3 and self.imports:
            return self.ask()
        if kind < 0.4 and self.functions:
            function = self.rng.choice(self.functions)
            return ("run", function[0], tuple(self.leaf() for _ in function[1]))
        if kind < 0.7:
            return (self.rng.choice(["plus", "minus", "less", "same", "times"]), self.leaf(), self.leaf())
        if kind < 0.7 + self.harm:
            return self.rng.choice([("cell", "b", self.leaf()), ("rest", self.number(), self.leaf()), ("local", "w")])
        return self.leaf()

    def test(self):
        return (self.rng.choice(["same", "less", "same"]), self.leaf(), self.leaf())

    def statements(self, depth):
        """One statement, or some that belong together."""
        kind = self.rng.random()
        if kind < 0.25:
            return (("let", self.rng.choice(["x", "y", "z"]), self.value()),)
        if kind < 0.35 and self.imports:
            # What is open leaves a trace while it is open.
            most = self.rng.choice([5, 7, 9])
            return (add_to("s", 1, most), ("let", "y", self.ask()), add_to("s", most - 1, most))
        if kind < 0.6:
            rest = self.rng.choice([2, 3, self.most])
            return (("store", "s", number(0), ("rest", ("plus", self.value(), self.leaf()), number(rest))),)
        if kind < 0.66:
            return (add_to("b", 1, self.rng.choice([2, 3, self.most])),)
        if kind < 0.7:
            return (("give", ("rest", self.value(), number(3))),)
        if kind < 0.72:
            return (("stop",),)
        if depth > 2:
            return (("let", "y", self.number()),)
        if kind < 0.78:
            # It comes to an end, whatever is done in it.
            count = ("let", "z", ("rest", ("minus", ("local", "z"), number(1)), number(3)))
            return (("if", ("less", ("local", "z"), number(3)),
                     (("while", ("local", "z"), (count, *self.body(depth + 2))),), ()),)
        return (("if", self.test(), self.body(depth + 1), self.body(depth + 1) if self.rng.random() < 0.4 else ()),)

    def body(self, depth):
        found = ()
        for _ in range(self.rng.choice([1, 1, 2, 3])):
            found += self.statements(depth)
        return found

    def part_body(self, trap=None):
        found = (("let", "y", self.number()), ("let", "z", self.number()))
        many = self.rng.choice([1, 2, 3, 4])
        spot = self.rng.randrange(many + 1)
        for at in range(many + 1):
            if at == spot and trap is not None:
                found += (self.trapped(trap),)
            found += self.statements(1)
        return found + (("give", ("rest", self.leaf(), number(self.rng.choice([1, 2, 3])))),)

    def trapped(self, trap):
        """A statement that is done where the cells and a local are just right."""
        local = self.rng.choice(["x", "y", "z"])
        tests = [("same", ("local", local), self.number(2)),
                 ("same", ("cell", "s", number(0)), self.number(self.most + 1)),
                 ("same", ("cell", "b", number(0)), self.number(self.most))]
        for test in self.rng.sample(tests, self.rng.choice([1, 2, 3])):
            trap = ("if", test, (trap,), ())
        return trap


def draw_small(rng, harm=0.02, most=3, trap=None):
    """A small room m, number 1 beside a room o, number 0; the trap is put into one of its doors."""
    while True:
        small = draw_any(rng, harm, most, trap)
        # Some have parts that are too long.
        if is_room(small):
            return small


def draw_any(rng, harm, most, trap):
    imports = IMPORTS[:rng.choice([0, 1, 1, 2])]
    functions = []
    for name in ["f", "g"][:rng.choice([0, 0, 1, 2])]:
        params = ("x",) if rng.random() < 0.8 else ("x", "k")
        functions.append((name, params, SmallDrawer(rng, imports, list(functions), harm, most).part_body()))
    names = ["u", "v"][:rng.randint(1, 2)]
    trapped = rng.choice(names)
    doors = []
    for name in names:
        body = SmallDrawer(rng, imports, functions, harm, most).part_body(trap if name == trapped else None)
        doors.append((name, "x", rng.randint(1, 3), body))
    return ("m", imports, BLOCKS, tuple(functions), tuple(doors))


def exchanged_trap(node, trap, other):
    """A room, or a part of it, with another statement in the place of the trap."""
    if node == trap:
        return other
    if isinstance(node, tuple):
        return tuple(exchanged_trap(one, trap, other) for one in node)
    return node


def draw_wish(rng):
    states = rng.randint(1, 3)
    rules = []
    for _ in range(rng.randint(1, 6)):
        word = rng.choice(["in", "in", "got", "calls", "gives", "gives", "ends"])
        door = rng.choice([None, 0, 1]) if word in ("in", "calls") else None
        low = rng.choice([0, 0, 1, 2, 3, 10, 9998])
        high = rng.choice([low, low, low + 1, 9999])
        after = rng.choice([None, *range(states)]) if rng.random() < 0.7 else rng.randrange(states)
        rules.append((rng.randrange(states), word, door, low, high, after))
    return (states, tuple(rules))


def beside_partner(small):
    """A program of depth 60 in which the small room has number 1, and any room with what it imports number 0."""
    doors = tuple((door, "x", 10000, ()) for _, door in small[1]) or (("k", "x", 10000, ()),)
    name = small[1][0][0] if small[1] else small[0][:6] + "zz"
    return (60, ((name, (), (), (), doors), small))
