"""Small rooms whose shortest plays are long: they count, moduli above what is looked for, and do something there."""

from drawnsmall import number
from smallrooms import small_room

HARM = "y = late"
COUNT = ("cell", "s", number(0))
OTHER = ("cell", "b", number(0))
TRAP = ("let", "z", ("cell", "b", number(9)))


def counting_room(many, there=HARM, gain="1", ask="(o.p(0) rest 1)", size=1, ahead="", more=""):
    """A room that asks and then adds to its count, and does something where it has come to a number.

    gain is what it adds, a being the answer and x the param; ahead are lines ahead of the ask, more are other doors.
    """
    return small_room(f"""  uses o.p
  block s 0
  door d x {size}
    if (s[0] = {many})
      {there}
{ahead}    a = {ask}
    s[0] = ((s[0] + {gain}) rest {many + 1})
    give 0
{more}""")


def other_door(many, gain, size=2):
    """The lines of one more door that asks and adds to the count."""
    return f"""  door e x {size}
    a = (o.p(x) rest 2)
    s[0] = ((s[0] + {gain}) rest {many + 1})
    give x
"""


def kinds_of_rooms(many, there=HARM):
    """By their names, rooms that come to the number each in its own way."""
    return {
        "plain": counting_room(many, there),
        "answer": counting_room(many, there, "a", "(o.p(0) rest 2)"),
        "any answer": counting_room(many, there, "a", "(o.p(s[0]) rest 6)"),
        "right answer": counting_room(many, there, "(a = x)", "(o.p(x) rest 3)", 3),
        "two answers": counting_room(many, there, "(a = b)", "(o.p(1) rest 2)", ahead="    b = (o.p(0) rest 2)\n"),
        "two doors": counting_room(many, there, more=other_door(many, "(a * x)")),
        "two ways": counting_room(many, there, more=other_door(many, "0")),
        "ahead": counting_room(many, there, "0", ahead=f"    s[0] = ((s[0] + 1) rest {many + 1})\n"),
        "up and down": counting_room(many, there, str(many), ahead="    s[0] = (s[0] + 2)\n"),
        "loop": small_room(f"""  uses o.p
  block s 0
  door d x 2
    i = x
    while (i < 3)
      if (s[0] = {many})
        {there}
      a = (o.p(i) rest 2)
      s[0] = ((s[0] + a) rest {many + 1})
      i = (i + 1)
    give x
"""),
    }


def held_room(many, most):
    """A room that counts how many of its runnings of d are open; while so many are, its door e counts up to the most,
    behind which it comes to harm."""
    return small_room(f"""  uses o.p
  block s 0
  block b 0
  door d x 1
    s[0] = (s[0] + 1)
    a = (o.p(0) rest 1)
    s[0] = (s[0] - 1)
    give 0
  door e x 1
    if (s[0] = {many})
      if (b[0] = {most})
        y = late
      a = (o.p(1) rest 1)
      b[0] = ((b[0] + 1) rest {most + 1})
    give 0
""")


class CountDrawer:
    """Draws bodies that count modulo a number, and in another cell modulo a smaller one."""

    def __init__(self, rng, most, other):
        self.rng = rng
        self.most = most
        self.other = other
        self.imports = (("o", "p"), ("o", "q"))[:rng.choice([1, 1, 2])]

    def add(self, block, value, rest):
        return ("store", block, number(0), ("rest", ("plus", ("cell", block, number(0)), value), number(rest)))

    def statement(self):
        kind, rng = self.rng.random(), self.rng
        if kind < 0.35:
            gain = rng.choice([number(1), number(1), number(2), number(self.most - 1), ("local", "x"), ("local", "y")])
            return self.add("s", gain, self.most)
        if kind < 0.65:
            room, door = rng.choice(self.imports)
            asked = rng.choice([number(0), COUNT, ("local", "x")])
            return ("let", "y", ("rest", ("ask", room, door, asked), number(rng.choice([1, 1, 2, 3]))))
        if kind < 0.75:
            return self.add("b", rng.choice([number(1), ("local", "y")]), self.other)
        if kind < 0.85:
            test = rng.choice([("less", COUNT, number(rng.randrange(self.most))), ("same", ("local", "y"), number(1)),
                               ("same", OTHER, number(0))])
            return ("if", test, self.body(rng.randint(1, 2)), self.body(1) if rng.random() < 0.3 else ())
        if kind < 0.9:
            return ("give", rng.choice([number(0), ("local", "y")]))
        return ("let", "x", ("rest", ("plus", ("local", "x"), number(1)), number(2)))

    def body(self, many):
        return tuple(self.statement() for _ in range(many))


def draw_counting(rng, most):
    """A room that counts modulo this number or less; where it has come to a drawn one stands the TRAP."""
    drawer = CountDrawer(rng, rng.randint(2, most), rng.choice([1, 2, 3]))
    trapped = ("if", ("same", COUNT, number(rng.randrange(1, drawer.most))), (TRAP,), ())
    if rng.random() < 0.5:
        trapped = ("if", ("same", OTHER, number(rng.randrange(drawer.other))), (trapped,), ())
    names = ["u", "v"][:rng.randint(1, 2)]
    spot = rng.choice(names)
    doors = []
    for name in names:
        body = drawer.body(rng.randint(2, 5))
        if name == spot:
            at = rng.randrange(len(body) + 1)
            body = (*body[:at], trapped, *body[at:])
        doors.append((name, "x", rng.choice([1, 1, 2, 3]), (("let", "y", number(0)), *body, ("give", number(0)))))
    return ("m", drawer.imports, (("s", (0,)), ("b", (0,))), (), tuple(doors))
