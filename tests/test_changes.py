"""Points [44], [45]: what may be stored to, the kinds of changes and their conditions."""

import random
import unittest

from busyrooms import draw_busy_room
from odd import odd_values
from ownharm.changes import changed, changes_of, is_change, stores_of
from ownharm.errors import BadChange, BadPlace, BadRoom
from ownharm.rooms import is_room, nodes, part_names
from ownharm.roomtexts import program_of, room_text
from plainchanges import all_changes, inlined, list_ways, may_store, parts

OTHER = """
room o
  door d x 10000
"""
EXAMPLE = ("r", (), (), (), (
    ("d", "x", 9, (("let", "y", ("plus", ("local", "x"), ("number", 0))), ("give", ("local", "x")))),))


def room_of(text):
    """The room whose lines these are; it may import the door d of a room o."""
    return program_of("depth 1\n" + text.strip("\n") + OTHER)[1][0]


def with_body(*lines, ahead="", uses=""):
    """A room r with the blocks b, c and x, the functions told ahead, and the door d x with these lines."""
    body = "\n".join("    " + line for line in lines)
    return room_of(f"room r\n{uses}  block b 1 2 -\n  block c 3\n  block x 7\n{ahead}  door d x 9\n{body}")


FUNCTIONS = """  function f p
    b[0] = p
    give p
  function g p
    give f(p)
  function h
    give o.d(1)
  function k p
    give (p + 1)
"""


def at_of(source, part, node):
    """The index of the first such node of a part."""
    return nodes(source, part).index(node)


class StoresTest(unittest.TestCase):
    SOURCE = room_of("""
room r
  uses o.d
  block a 1
  block b 1
  block c 1
  block e 1
  block f 1
  function one p
    b[0] = p
  function two p
    y = one(p)
    give e[0]
  function three
    give o.d(0)
  function four
    a[0] = 2
  door go x 9
    c[0] = x
    y = two(x)
    while x
      e[o.d(1)] = 3
    give three()
  door other x 9
    if x
      y = one(1)
      e[0] = 5
    else
      e[0] = two(e[0])
    give (x + 1)
""")

    def told(self, part, word, nth=0):
        places = [at for at, node in enumerate(nodes(self.SOURCE, part)) if node[0] == word]
        return stores_of(self.SOURCE, (part, places[nth]))

    def test_stores(self):
        self.assertEqual(self.told("one", "store"), ("b",))
        self.assertEqual(self.told("one", "local"), ())
        self.assertEqual(self.told("two", "let"), ("b",))
        self.assertEqual(self.told("two", "run"), ("b",))
        self.assertEqual(self.told("two", "give"), ())
        self.assertEqual(self.told("four", "store"), ("a",))
        self.assertEqual(self.told("go", "store"), ("c",))
        self.assertEqual(self.told("go", "let"), ("b",))
        # Behind an ask any door may be called back; no door runs four.
        for part, word in [("three", "ask"), ("three", "give"), ("go", "while"), ("go", "ask"), ("go", "give"), ("go", "run")]:
            self.assertEqual(self.told(part, word, 1 if word == "run" else 0), ("b", "c", "e"))
        self.assertEqual(self.told("other", "if"), ("b", "e"))
        self.assertEqual(self.told("other", "store", 0), ("e",))
        self.assertEqual(self.told("other", "store", 1), ("b", "e"))
        self.assertEqual(self.told("other", "give"), ())
        self.assertEqual(stores_of(place=("go", 0), source=self.SOURCE), ("c",))

    def test_drawn_rooms(self):
        for seed in range(30):
            source = draw_busy_room(random.Random(seed))
            for part in part_names(source):
                for at, node in enumerate(nodes(source, part)):
                    found = may_store(source, (node,))
                    self.assertEqual(stores_of(source, (part, at)), tuple(b[0] for b in source[2] if b[0] in found))

    def test_errors_in_their_order(self):
        many = len(nodes(self.SOURCE, "one"))
        for value in odd_values():
            self.assertRaises(BadRoom, stores_of, value, None)
            if value != ("go", 0):
                self.assertRaises(BadPlace, stores_of, self.SOURCE, value)
        for place in [("one", many), ("one", -1), ("one", True), ("none", 0), ["one", 0], ("one",), ("one", 0, 0), (None, 0)]:
            self.assertRaises(BadPlace, stores_of, self.SOURCE, place)


class KindsTest(unittest.TestCase):
    """Each kind where it can be done and where one condition fails."""

    def can(self, source, change, behind):
        self.assertIs(is_change(source, change), True)
        new = changed(source, change)
        self.assertTrue(is_room(new))
        self.assertEqual(room_text(new), room_text(behind))
        self.assertEqual(new, behind)
        if change[0] != "inline":
            self.assertIn(change, changes_of(source))

    def cannot(self, source, change):
        self.assertIs(is_change(source, change), False)
        with self.assertRaises(BadChange) as caught:
            changed(source, change)
        self.assertIsNone(caught.exception.at)
        self.assertNotIn(change, changes_of(source))

    def test_example(self):
        self.assertEqual(changes_of(EXAMPLE), [("unit", "d", 1), ("drop", "d", 0)])

    def test_fold(self):
        for text, worth in [("(3 + 9999)", 2), ("(3 - 5)", 9998), ("(300 * 300)", 0), ("(7 rest 4)", 3), ("(2 < 3)", 1),
                            ("(3 < 3)", 0), ("(3 = 3)", 1), ("(3 = 4)", 0), ("(0 rest 5)", 0), ("(5 rest 1)", 0),
                            ("(9999 * 9999)", 1), ("(0 - 1)", 9999)]:
            self.can(with_body(f"give {text}"), ("fold", "d", 1), with_body(f"give {worth}"))
        self.can(with_body("y = (x + (1 + 2))"), ("fold", "d", 3), with_body("y = (x + 3)"))
        for text in ["(3 rest 0)", "(x + 1)", "(1 + x)", "((1 + 2) + 3)", "7", "x", "b[0]", "(b[0] - 1)"]:
            self.cannot(with_body(f"give {text}"), ("fold", "d", 1))
        self.cannot(with_body("give (1 + 2)"), ("fold", "d", 0))
        self.cannot(with_body("give (1 + 2)"), ("fold", "d", 2))

    def test_unit(self):
        for text, worth in [("(x + 0)", "x"), ("(0 + x)", "x"), ("(x - 0)", "x"), ("(x * 1)", "x"), ("(1 * x)", "x"),
                            ("(0 + 0)", "0"), ("(5 + 0)", "5"), ("(0 - 0)", "0"), ("((x < 2) + 0)", "(x < 2)"),
                            ("(1 * 1)", "1"), ("(0 * 1)", "0"), ("(1 * (x + 0))", "(x + 0)")]:
            self.can(with_body(f"give {text}"), ("unit", "d", 1), with_body(f"give {worth}"))
        for text in ["(0 - x)", "(x + 1)", "(x * 0)", "(0 * x)", "(x - 1)", "(x rest 1)", "(x < 1)", "(x = 0)", "(1 + x)", "x"]:
            self.cannot(with_body(f"give {text}"), ("unit", "d", 1))
        asking = with_body("give (o.d(x) + 0)", uses="  uses o.d\n")
        self.can(asking, ("unit", "d", 1), with_body("give o.d(x)", uses="  uses o.d\n"))

    def test_branch(self):
        self.can(with_body("if 5", "  y = 1", "  z = 2", "else", "  stop", "give x"), ("branch", "d", 0),
                 with_body("y = 1", "z = 2", "give x"))
        self.can(with_body("if 0", "  y = 1", "else", "  stop", "  y = 3", "give x"), ("branch", "d", 0),
                 with_body("stop", "y = 3", "give x"))
        self.can(with_body("y = 1", "if 0", "  y = 2"), ("branch", "d", 2), with_body("y = 1"))
        self.can(with_body("if 1"), ("branch", "d", 0), with_body())
        self.can(with_body("while x", "  if 3", "    y = 1", "  else", "    y = 2", "  z = 1"), ("branch", "d", 2),
                 with_body("while x", "  y = 1", "  z = 1"))
        self.can(with_body("if x", "else", "  while 0", "    stop", "  y = 1"), ("branch", "d", 2),
                 with_body("if x", "else", "  y = 1"))
        self.can(with_body("while 0", "  y = 1"), ("branch", "d", 0), with_body())
        for lines in [["if x", "  y = 1"], ["if (1 + 1)"], ["while 1"], ["while x"], ["while (0 + 0)"], ["give 0"], ["y = 0"]]:
            self.cannot(with_body(*lines), ("branch", "d", 0))
        self.cannot(with_body("if 1", "  y = 1"), ("branch", "d", 1))

    def test_cut(self):
        self.can(with_body("give x", "y = 1", "stop"), ("cut", "d", 0), with_body("give x"))
        self.can(with_body("y = 1", "stop", "y = 2"), ("cut", "d", 2), with_body("y = 1", "stop"))
        self.can(with_body("if x", "  stop", "  stop", "give 1"), ("cut", "d", 2), with_body("if x", "  stop", "give 1"))
        self.can(with_body("if x", "else", "  stop", "  if x", "    stop", "give 1"), ("cut", "d", 2),
                 with_body("if x", "else", "  stop", "give 1"))
        self.cannot(with_body("if x", "  stop", "give 1"), ("cut", "d", 2))
        self.cannot(with_body("give x"), ("cut", "d", 0))
        self.cannot(with_body("y = 1", "give x"), ("cut", "d", 2))
        self.cannot(with_body("y = 1", "give x"), ("cut", "d", 0))
        self.cannot(with_body("give x", "y = 1"), ("cut", "d", 1))

    def test_drop(self):
        self.can(with_body("y = (x rest 0)", "give x"), ("drop", "d", 0), with_body("give x"))
        self.can(with_body("y = 1", "y = 2"), ("drop", "d", 2), with_body("y = 1"))
        self.can(with_body("while x", "  y = b[7]"), ("drop", "d", 2), with_body("while x"))
        # A param that is read nowhere; a block of the same name does not matter.
        self.can(with_body("x = 1", "x[0] = x[1]"), ("drop", "d", 0), with_body("x[0] = x[1]"))
        self.cannot(with_body("y = y"), ("drop", "d", 0))
        self.cannot(with_body("y = 1", "give y"), ("drop", "d", 0))
        self.cannot(with_body("give (y + 1)", "y = 1"), ("drop", "d", 4))
        self.cannot(with_body("x = x"), ("drop", "d", 0))
        self.cannot(with_body("y = (1 + o.d(2))", uses="  uses o.d\n"), ("drop", "d", 0))
        self.cannot(with_body("y = k(2)", ahead=FUNCTIONS, uses="  uses o.d\n"), ("drop", "d", 0))
        self.cannot(with_body("b[0] = 1"), ("drop", "d", 0))
        # What is read in another part does not matter.
        self.can(with_body("p = 2", ahead=FUNCTIONS, uses="  uses o.d\n"), ("drop", "d", 0),
                 with_body(ahead=FUNCTIONS, uses="  uses o.d\n"))

    def test_over(self):
        self.can(with_body("b[1] = x", "b[1] = (x + 1)"), ("over", "d", 0), with_body("b[1] = (x + 1)"))
        self.can(with_body("b[9] = b[0]", "b[9] = c[0]"), ("over", "d", 0), with_body("b[9] = c[0]"))
        self.can(with_body("if x", "  b[0] = 1", "  b[0] = 2", "  b[0] = 3"), ("over", "d", 5),
                 with_body("if x", "  b[0] = 1", "  b[0] = 3"))
        for lines in [["b[1] = x", "b[2] = x"], ["b[0] = x", "c[0] = x"], ["b[x] = 1", "b[x] = 2"], ["b[0] = 1", "b[x] = 2"],
                      ["b[x] = 1", "b[0] = 2"], ["b[0] = 1", "b[0] = b[1]"], ["b[0] = 1", "b[0] = (x + b[x])"], ["b[0] = 1"],
                      ["b[0] = 1", "y = 1", "b[0] = 2"], ["b[(0 + 0)] = 1", "b[(0 + 0)] = 1"], ["y = 1", "b[0] = 1"],
                      ["b[0] = 1", "y = 1"], ["b[0] = 1", "if x", "  b[0] = 2"]]:
            self.cannot(with_body(*lines), ("over", "d", 0))
        for lines in [["b[0] = o.d(1)", "b[0] = 2"], ["b[0] = 2", "b[0] = o.d(1)"], ["b[0] = k(1)", "b[0] = 2"],
                      ["b[0] = 2", "b[0] = (1 + k(1))"]]:
            self.cannot(with_body(*lines, ahead=FUNCTIONS, uses="  uses o.d\n"), ("over", "d", 0))

    def test_swap(self):
        for one, other in [("y = 1", "z = 2"), ("y = x", "z = x"), ("y = b[0]", "z = b[0]"), ("y = 1", "b[0] = x"),
                           ("b[0] = 1", "y = c[0]"), ("b[0] = c[0]", "x[0] = c[0]"), ("b[0] = 1", "c[0] = 2"),
                           # The local x and the block x have nothing to do with one another.
                           ("x = 1", "x[0] = 2"), ("x[0] = 2", "x = 1"), ("x[0] = 2", "y = x"), ("x = 1", "y = x[0]")]:
            self.can(with_body(one, other, "give 1"), ("swap", "d", 0), with_body(other, one, "give 1"))
            self.can(with_body("while x", "  " + one, "  " + other), ("swap", "d", 2),
                     with_body("while x", "  " + other, "  " + one))
        for one, other in [("y = 1", "z = y"), ("z = y", "y = 1"), ("y = 1", "y = 2"), ("b[0] = 1", "b[1] = 2"),
                           ("b[0] = 1", "y = b[1]"), ("y = b[1]", "b[0] = 1"), ("y = 1", "b[y] = 2"), ("b[y] = 2", "y = 1"),
                           ("b[0] = c[0]", "c[0] = 1"), ("c[b[0]] = 1", "b[0] = 1"), ("b[0] = 1", "c[b[0]] = 1"),
                           ("y = 1", "give 2"), ("give 2", "y = 1"), ("y = 1", "stop"), ("y = 1", "if x"), ("while x", "y = 1")]:
            self.cannot(with_body(one, other), ("swap", "d", 0))
        for one, other in [("y = o.d(1)", "z = 1"), ("z = 1", "y = o.d(1)"), ("y = k(1)", "z = 1"), ("z = 1", "c[0] = k(1)")]:
            self.cannot(with_body(one, other, ahead=FUNCTIONS, uses="  uses o.d\n"), ("swap", "d", 0))
        self.cannot(with_body("y = 1", "while x", "z = 1"), ("swap", "d", 0))
        self.cannot(with_body("y = 1"), ("swap", "d", 0))
        self.cannot(with_body("if x", "  y = 1", "z = 1"), ("swap", "d", 2))

    def test_peel(self):
        self.can(with_body("while (x < 3)", "  x = (x + 1)", "give x"), ("peel", "d", 0),
                 with_body("if (x < 3)", "  x = (x + 1)", "  while (x < 3)", "    x = (x + 1)", "give x"))
        self.can(with_body("while 1"), ("peel", "d", 0), with_body("if 1", "  while 1"))
        self.cannot(with_body("if 1", "  while 1"), ("peel", "d", 0))
        self.cannot(with_body("give 1"), ("peel", "d", 0))

    def test_peel_too_long_or_too_deep(self):
        # The while has 2 + 2 * many nodes; behind the change the if, its test and the lets stand there once more.
        for many, more, fine in [(48, 4, True), (48, 5, False), (49, 0, True), (49, 1, False), (99, 0, False)]:
            body = (("while", ("number", 1), (("let", "y", ("number", 1)),) * many),) + (("stop",),) * more
            source = ("r", (), (), (), (("d", "x", 9, body),))
            self.assertTrue(is_room(source))
            self.assertEqual(is_change(source, ("peel", "d", 0)), fine)
            self.assertEqual(("peel", "d", 0) in changes_of(source), fine)
        # A while at the depth d with a let in it has nodes down to d + 2, behind the change down to d + 3.
        for depth, fine in [(8, True), (9, True), (10, False)]:
            inner = ("while", ("number", 1), (("let", "y", ("number", 1)),))
            for _ in range(depth - 1):
                inner = ("if", ("number", 1), (inner,), ())
            source = ("r", (), (), (), (("d", "x", 9, (inner,)),))
            self.assertTrue(is_room(source))
            self.assertEqual(is_change(source, ("peel", "d", 2 * (depth - 1))), fine)

    # The lines, and which cell of them may become y: the index of its line and the text of that line behind.
    LOADS = [
        (["y = b[0]", "give b[0]"], 1, "give y"), (["y = b[0]", "z = 1", "c[0] = 2", "give (x + b[0])"], 3, "give (x + y)"),
        (["y = b[0]", "while x", "  if x", "    give b[0]"], 3, "    give y"), (["y = b[0]", "if b[0]", "  z = 1"], 1, "if y"),
        (["y = b[0]", "b[0] = b[0]"], 1, "b[0] = y"), (["y = b[0]", "y = (b[0] + 1)"], 1, "y = (y + 1)"),
        (["y = b[0]", "x[b[0]] = 1"], 1, "x[y] = 1"), (["while x", "  y = b[0]", "  z = b[0]"], 2, "  z = y"),
        (["if x", "else", "  y = b[0]", "  give b[0]"], 3, "  give y"), (["y = b[0]", "c[0] = b[0]", "z = 3"], 1, "c[0] = y"),
        (["y = b[0]", "give b[0]", "b[0] = 1"], 1, "give y"), (["y = b[7]", "give b[7]"], 1, "give y"),
        (["b[0] = 1", "y = b[0]", "give b[0]"], 2, "give y"), (["y = b[0]", "stop", "give b[0]"], 2, "give y"),
        (["y = b[0]", "while x", "  z = b[0]", "  c[0] = 4"], 2, "  z = y"), (["y = b[0]", "b[b[0]] = 1"], 1, "b[y] = 1"),
        (["y = 1", "y = b[0]", "while b[0]", "  b[1] = 2", "y = b[0]", "give b[0]"], 5, "give y"),
    ]
    NO_LOADS = [
        # Another index, no number as index, another value, another block, no let.
        ["y = b[0]", "give b[1]"], ["y = b[x]", "give b[x]"], ["y = (b[0] + 0)", "give b[0]"], ["y = c[0]", "give b[0]"],
        ["b[0] = b[0]", "give b[0]"],
        # A let of the name or a store between, in an inner list too.
        ["y = b[0]", "y = 1", "give b[0]"], ["y = b[0]", "b[2] = 1", "give b[0]"], ["y = b[0]", "if x", "  y = 1", "give b[0]"],
        ["y = b[0]", "while x", "  b[x] = 1", "give b[0]"],
        # In the if or the while in which the node stands, behind it too.
        ["y = b[0]", "if x", "  give b[0]", "else", "  y = 1"], ["y = b[0]", "while x", "  z = b[0]", "  b[1] = 1"],
        ["y = b[0]", "while b[0]", "  y = 3"],
        # Not behind the let, or in no list with it.
        ["give b[0]", "y = b[0]"], ["if x", "  y = b[0]", "give b[0]"], ["if x", "  y = b[0]", "else", "  give b[0]"],
    ]

    def test_load(self):
        for lines, spot, line in self.LOADS:
            source = with_body(*lines)
            spots = [at for at, node in enumerate(nodes(source, "d")) if node[0] == "cell"]
            done = [at for at in spots if is_change(source, ("load", "d", at, "y"))]
            self.assertEqual(len(done), 1, lines)
            self.can(source, ("load", "d", done[0], "y"), with_body(*lines[:spot], line, *lines[spot + 1:]))
            for name in ["x", "z", "w", None, 5, ["y"], ("y",), "", "Y", True, {"y": 1}]:
                self.cannot(source, ("load", "d", done[0], name))

    def test_no_load(self):
        for lines in self.NO_LOADS:
            source = with_body(*lines)
            for at in range(len(nodes(source, "d"))):
                for name in ["x", "y", "z"]:
                    self.cannot(source, ("load", "d", at, name))

    def test_load_beside_runs_and_asks(self):
        uses = "  uses o.d\n"
        with_store = FUNCTIONS + "  function s\n    c[0] = 1\n"
        for middle, fine in [("z = k(1)", True), ("z = s()", True), ("z = f(1)", False), ("z = g(1)", False),
                             ("z = o.d(1)", False), ("z = h()", False), ("z = (1 + g(o.d(1)))", False)]:
            # The door stores to b, so any ask may; s stores to c alone.
            source = with_body("y = b[1]", middle, "z = b[1]", "b[1] = 5", ahead=with_store, uses=uses)
            spot = max(at for at, node in enumerate(nodes(source, "d")) if node[0] == "cell")
            if fine:
                behind = with_body("y = b[1]", middle, "z = y", "b[1] = 5", ahead=with_store, uses=uses)
                self.can(source, ("load", "d", spot, "y"), behind)
            else:
                self.cannot(source, ("load", "d", spot, "y"))
        # No door stores to b, and none runs what does: an ask cannot either.
        source = with_body("y = b[1]", "z = o.d(1)", "z = b[1]", ahead=FUNCTIONS, uses=uses)
        self.can(source, ("load", "d", 7, "y"), with_body("y = b[1]", "z = o.d(1)", "z = y", ahead=FUNCTIONS, uses=uses))
        # In one expression: what stands behind the node counts, too.
        source = with_body("y = b[1]", "z = (b[1] + f(2))", ahead=FUNCTIONS, uses=uses)
        self.cannot(source, ("load", "d", 5, "y"))

    def test_load_of_several_names(self):
        source = with_body("y = b[0]", "w = b[0]", "v = 2", "if x", "  y = b[0]", "  z = b[0]")
        found = [change for change in changes_of(source) if change[0] == "load"]
        self.assertEqual(found, [("load", "d", 4, "y"), ("load", "d", 11, "w"), ("load", "d", 14, "w"), ("load", "d", 14, "y")])
        source = with_body("z = b[0]", "y = b[0]", "a = b[0]")
        found = [change for change in changes_of(source) if change[0] == "load"]
        self.assertEqual(found, [("load", "d", 4, "z"), ("load", "d", 7, "y"), ("load", "d", 7, "z")])

    INLINE = """  function f p q
    r = (p + s)
    b[r] = q
    give (r + p)
  function g
    t = f(1, 2)
    if t
      stop
  function early p
    if p
      give 1
    give 2
  function once p
    if p
      give 1
  function ahead
    give 1
    b[0] = 2
  function loop p
    while p
      p = (p - 1)
    give p
"""

    def test_inline(self):
        source = with_body("y = f((x + 1), b[0])", "give y", ahead=self.INLINE)
        behind = with_body("t0 = (x + 1)", "t1 = b[0]", "t2 = (t0 + t3)", "b[t2] = t1", "y = (t2 + t0)", "give y",
                           ahead=self.INLINE)
        self.can(source, ("inline", "d", 0, ("t0", "t1", "t2", "t3")), behind)
        self.can(source, ("inline", "d", 0, ("e", "a", "z", "f")), with_body(
            "e = (x + 1)", "a = b[0]", "z = (e + f)", "b[z] = a", "y = (z + e)", "give y", ahead=self.INLINE))
        self.can(with_body("while x", "  y = g()", ahead=self.INLINE), ("inline", "d", 2, ("a",)),
                 with_body("while x", "  a = f(1, 2)", "  if a", "    stop", "  y = 0", ahead=self.INLINE))
        self.can(with_body("x = loop(x)", ahead=self.INLINE), ("inline", "d", 0, ("p",)),
                 with_body("p = x", "while p", "  p = (p - 1)", "x = p", ahead=self.INLINE))
        # In a function, and one without locals.
        order = "  function none\n    b[0] = 1\n  function g\n    t = none()\n"
        self.can(with_body(ahead=order), ("inline", "g", 0, ()),
                 with_body(ahead="  function none\n    b[0] = 1\n  function g\n    b[0] = 1\n    t = 0\n"))

    def test_no_inline(self):
        source = with_body("y = f((x + 1), b[0])", "give w", ahead=self.INLINE)
        good = ("t0", "t1", "t2", "t3")
        for names in [good[:3], good + ("t4",), (), list(good), None, "abcd", ("t0", "t1", "t2", "t2"), ("y", "t1", "t2", "t3"),
                      ("t0", "x", "t2", "t3"), ("t0", "t1", "w", "t3"), ("t0", "t1", "t2", "if"), ("t0", "t1", "t2", "T"),
                      ("t0", "t1", "t2", 3), ("t0", "t1", "t2", None), ("t0", "t1", "t2", ["t3"]), ("t0", "t1", "t2", ""),
                      ("t0", "t1", "t2", "abcdefghi"), 0, True, {"t0": 1}]:
            self.cannot(source, ("inline", "d", 0, names))
        self.cannot(source, ("inline", "d", 1, good))
        self.cannot(with_body("y = (f(1, 2) + 0)", ahead=self.INLINE), ("inline", "d", 0, good))
        self.cannot(with_body("b[0] = f(1, 2)", ahead=self.INLINE), ("inline", "d", 0, good))
        self.cannot(with_body("give f(1, 2)", ahead=self.INLINE), ("inline", "d", 0, good))
        self.cannot(with_body("y = 1", ahead=self.INLINE), ("inline", "d", 0, ()))
        self.cannot(with_body("y = early(1)", ahead=self.INLINE), ("inline", "d", 0, ("t0",)))
        self.cannot(with_body("y = once(1)", ahead=self.INLINE), ("inline", "d", 0, ("t0",)))
        self.cannot(with_body("y = ahead()", ahead=self.INLINE), ("inline", "d", 0, ()))
        for kind in ["fold", "peel", "load", "Inline", ""]:
            self.cannot(source, (kind, "d", 0, good))
        self.cannot(with_body("y = b[0]", ahead=self.INLINE), ("inline", "d", 0, ()))

    def inline_room(self, inner, door, depth):
        """A function with the body inner, inlined in the door at a depth, behind other statements."""
        call = ("let", "y", ("run", "f", ()))
        for _ in range(depth - 1):
            call = ("while", ("number", 1), (call,))
        return ("r", (), (), (("f", (), inner),), (("d", "x", 9, (call,) + door),))

    def test_inline_too_long_or_too_deep(self):
        # The let and its run become the statements of the function and a let with a number.
        for many, fine in [(100, True), (101, False)]:
            source = self.inline_room((("stop",),) * many, (("stop",),) * 98, 1)
            self.assertTrue(is_room(source))
            self.assertEqual(is_change(source, ("inline", "d", 0, ())), fine)
        deep = ("let", "a", ("number", 1))
        for _ in range(4):
            deep = ("if", ("number", 0), (), (deep,))
        for depth, fine in [(7, True), (8, False)]:
            source = self.inline_room((deep,), (), depth)
            self.assertTrue(is_room(source))
            self.assertEqual(is_change(source, ("inline", "d", 2 * (depth - 1), ("b",))), fine)


class DrawnTest(unittest.TestCase):
    def test_all_changes_in_their_order(self):
        kinds = {}
        for seed in range(200):
            rng = random.Random(seed)
            source = draw_busy_room(rng, rng.choice([10, 20, 40, 60]))
            told = all_changes(source)
            self.assertEqual(changes_of(source), [change for change, _ in told], seed)
            for change, behind in told:
                kinds[change[0]] = kinds.get(change[0], 0) + 1
                if rng.random() < 0.3:
                    self.assertEqual(changed(source, change), behind)
                    self.assertTrue(is_change(source, change))
        self.assertGreater(min(kinds.values()), 20)
        self.assertEqual(len(kinds), 9)

    def test_other_triples_are_no_changes(self):
        for seed in range(15):
            rng = random.Random(seed)
            source = draw_busy_room(rng, 20)
            told = {change for change, _ in all_changes(source)}
            for part in part_names(source):
                for at in range(-1, len(nodes(source, part)) + 2):
                    for kind in ["fold", "unit", "branch", "cut", "drop", "over", "swap", "peel", "load", "inline", "no"]:
                        self.assertEqual(is_change(source, (kind, part, at)), (kind, part, at) in told)
                        self.assertEqual(is_change(source, (kind, part, at, "y")), (kind, part, at, "y") in told)

    def test_drawn_inlinings(self):
        many = 0
        for seed in range(80):
            rng = random.Random(seed)
            source = draw_busy_room(rng, 30)
            for name, part in parts(source).items():
                for at, (_, node) in enumerate(list_ways(part[-1])):
                    for count in range(4 if node[0] == "let" else 1):
                        names = tuple(rng.sample(["t0", "t1", "u", "v", "x", "k"], count))
                        behind = inlined(source, name, at, names)
                        change = ("inline", name, at, names)
                        self.assertEqual(is_change(source, change), behind is not None)
                        if behind is not None:
                            self.assertEqual(changed(source, change), behind)
                            many += 1
        self.assertGreater(many, 50)


class ErrorsTest(unittest.TestCase):
    def test_values_of_every_kind(self):
        wrong = [("unit", "d"), ("unit", "d", 1, 0), ("unit", "d", True), ("unit", "d", -1), ("unit", "d", 5), ("unit", "e", 1),
                 ["unit", "d", 1], ("unit", None, 1), ("unit", ("d",), 1), ("unit", ["d"], 1), (None, "d", 1), (["unit"], "d", 1),
                 (("unit",), "d", 1), ("Unit", "d", 1), ("unit", "d", 10 ** 99), ("unit", "d", "1"), ("unit", "d", None),
                 ("load", "d", 1), ("inline", "d", 0), ("load", "d", 1, "y", 0), {"unit": 1}, "unit", ("unit", "d", (1,)),
                 ({}, "d", 1), ("unit", {}, 1), ("unit", "d", {})]
        for value in odd_values() + wrong:
            self.assertIs(is_change(EXAMPLE, value), False)
            with self.assertRaises(BadChange) as caught:
                changed(EXAMPLE, value)
            self.assertIsNone(caught.exception.at)
            for told in [changes_of, lambda one: is_change(one, None), lambda one: changed(one, None)]:
                self.assertRaises(BadRoom, told, value)
        self.assertIs(is_change(thing=("unit", "d", 1), source=EXAMPLE), True)
        self.assertEqual(changed(change=("drop", "d", 0), source=EXAMPLE)[4][0][3], (("give", ("local", "x")),))

    def test_lists_are_new(self):
        changes_of(EXAMPLE).clear()
        self.assertEqual(len(changes_of(EXAMPLE)), 2)


if __name__ == "__main__":
    unittest.main()
