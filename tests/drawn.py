"""Programs drawn from a seed: always within the limits, often with undefined steps."""

import random

POOL = ["a", "b", "c", "x", "y", "n", "go", "z9", "plus", "cell", "let", "number"]
OPERATORS = ["plus", "minus", "times", "rest", "less", "same"]


class BodyDrawer:
    """Draws the body of one part; tame ones do an undefined step less often."""

    def __init__(self, rng, tame, params, blocks, imports, functions, most):
        self.rng = rng
        self.tame = tame
        self.blocks = blocks
        self.imports = imports
        self.functions = functions
        self.left = most
        self.set_names = list(params)

    def name(self):
        if self.tame and self.set_names and self.rng.random() < 0.97:
            return self.rng.choice(self.set_names)
        return self.rng.choice(POOL)

    def leaf(self):
        self.left -= 1
        if self.rng.random() < 0.5:
            return ("number", self.rng.choice([0, 1, 2, 3, 5, 9999, self.rng.randrange(10000)]))
        name = self.name()
        if self.tame and name not in self.set_names:
            return ("number", 7)
        return ("local", name)

    def index(self, depth, many):
        if self.tame and self.left > 3 and depth < 11:
            self.left -= 2
            return ("rest", self.value(depth + 1), ("number", many))
        return self.value(depth)

    def value(self, depth):
        if depth >= 11 or self.left < 8 or self.rng.random() < 0.35:
            return self.leaf()
        self.left -= 1
        kind = self.rng.randrange(10)
        if kind == 0 and self.blocks:
            block = self.rng.choice(self.blocks)
            return ("cell", block[0], self.index(depth + 1, len(block[1])))
        if kind in (1, 2) and self.functions:
            function = self.rng.choice(self.functions)
            return ("run", function[0], tuple(self.value(depth + 1) for _ in function[1]))
        if kind in (3, 4, 5, 6) and self.imports:
            room, door = self.rng.choice(self.imports)
            return ("ask", room, door, self.value(depth + 1))
        word = self.rng.choice(OPERATORS)
        if word == "rest" and self.tame:
            self.left -= 1
            return ("rest", self.value(depth + 1), ("number", self.rng.randint(1, 9)))
        return (word, self.value(depth + 1), self.value(depth + 1))

    def statement(self, depth):
        self.left -= 1
        kind = self.rng.randrange(12)
        if kind < 4:
            name = self.rng.choice(POOL)
            value = self.value(depth + 1)
            self.set_names.append(name)
            return ("let", name, value)
        if kind < 7 and self.blocks:
            block = self.rng.choice(self.blocks)
            index = self.index(depth + 1, len(block[1]))
            return ("store", block[0], index, self.value(depth + 1))
        if kind == 7:
            return ("give", self.value(depth + 1))
        if kind == 8 and self.rng.random() < 0.2:
            return ("stop",)
        if depth > 8:
            return ("give", self.leaf())
        test = self.value(depth + 1)
        known = list(self.set_names)
        if kind == 9:
            body = self.body(depth + 1)
            self.set_names = known
            return ("while", test, body)
        first = self.body(depth + 1)
        self.set_names = list(known)
        second = self.body(depth + 1) if self.rng.random() < 0.6 else ()
        self.set_names = known
        return ("if", test, first, second)

    def body(self, depth):
        found = []
        while self.left > 16 and len(found) < 5 and self.rng.random() < 0.85:
            found.append(self.statement(depth))
        return tuple(found)


def draw_block(rng, name):
    many = rng.choice([1, 1, 2, 3, 6])
    return (name, tuple(None if rng.random() < 0.15 else rng.choice([0, 1, 5, 9999]) for _ in range(many)))


def draw_room(rng, name, doors, imports, tame, most):
    part_pool = [word for word in POOL if word not in doors]
    blocks = tuple(draw_block(rng, word) for word in rng.sample(POOL, rng.randrange(3)))
    functions = []
    for word in rng.sample(part_pool, rng.randrange(4)):
        params = tuple(rng.sample(POOL, rng.randrange(4)))
        drawer = BodyDrawer(rng, tame, params, blocks, imports, list(functions), most)
        functions.append((word, params, drawer.body(1)))
    told = []
    for word in doors:
        param = rng.choice(POOL)
        drawer = BodyDrawer(rng, tame, (param,), blocks, imports, functions, most)
        told.append((word, param, rng.choice([1, 2, 10, 10000]), drawer.body(1)))
    return (name, tuple(imports), blocks, tuple(functions), tuple(told))


def draw_program(seed, tame=True, most=60):
    """The program drawn from a seed, each of its parts with at most so many nodes, about."""
    rng = random.Random(seed)
    names = rng.sample(POOL, rng.randint(1, 4))
    doors = {name: rng.sample(POOL, rng.randint(1, 3)) for name in names}
    rooms = []
    for name in names:
        choices = [(other, door) for other in names if other != name for door in doors[other]]
        imports = rng.sample(choices, min(len(choices), rng.choice([0, 1, 2, 2, 3, 4])))
        rooms.append(draw_room(rng, name, doors[name], imports, tame, most))
    return (rng.choice([1, 2, 3, 5]), tuple(rooms))
