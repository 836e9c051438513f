"""Points [14], [15], [17]: the texts of programs and rooms, blanks, remarks, empty lines, there and back."""

import random
import unittest

from drawn import draw_program
from odd import odd_values
from ownharm.errors import BadPlace, BadProgram, BadRoom, BadText
from ownharm.rooms import is_program, nodes
from ownharm.roomtexts import expr_text, program_of, program_text, room_text

ZERO = ("number", 0)
X = ("local", "x")
EXAMPLE_TEXT = "depth 2\nroom a\n  door go x 10\n    while (x < 3)\n      x = (x + 1)\n    give x"
EXAMPLE = (2, (("a", (), (), (), (("go", "x", 10, (
    ("while", ("less", ("local", "x"), ("number", 3)), (("let", "x", ("plus", ("local", "x"), ("number", 1))),)),
    ("give", ("local", "x")))),)),))

ALL = (60, (
    ("a", (("b", "d"), ("b", "e")), (("k", (1, None, 9999)), ("j", (None,))), (
        ("f", (), ()),
        ("g", ("p", "q"), (("give", ("run", "f", ())),)),
    ), (
        ("go", "x", 10000, (
            ("if", ("ask", "b", "d", X), (), ()),
            ("if", ("cell", "k", ZERO), (("stop",),), ()),
            ("if", X, (), (("stop",), ("if", X, (("while", X, ()),), (("give", X),)))),
            ("while", ("times", ("minus", X, ZERO), ("rest", X, ("same", ZERO, X))), (
                ("while", ZERO, (("let", "y", ("run", "g", (X, ("cell", "j", X)))),)),
                ("store", "k", ("cell", "k", ZERO), ("ask", "b", "e", ("less", X, ZERO))),
            )),
        )),
        ("to", "y", 1, ()),
    )),
    ("b", (), (), (), (("d", "d", 1, ()), ("e", "e", 2, (("give", ("number", 9999)),)))),
))
ALL_TEXT = """depth 60
room a
  uses b.d b.e
  block k 1 - 9999
  block j -
  function f
  function g p q
    give f()
  door go x 10000
    if b.d(x)
    if k[0]
      stop
    if x
    else
      stop
      if x
        while x
      else
        give x
    while ((x - 0) * (x rest (0 = x)))
      while 0
        y = g(x, j[x])
      k[k[0]] = b.e((x < 0))
  door to y 1
room b
  door d d 1
  door e e 2
    give 9999"""


class TextsTest(unittest.TestCase):
    def test_examples(self):
        self.assertEqual(program_text(EXAMPLE), EXAMPLE_TEXT)
        self.assertEqual(program_of(EXAMPLE_TEXT), EXAMPLE)
        self.assertTrue(is_program(ALL))
        self.assertEqual(program_text(ALL), ALL_TEXT)
        self.assertEqual(program_of(ALL_TEXT), ALL)

    def test_room_text(self):
        lines = ALL_TEXT.split("\n")
        self.assertEqual(room_text(ALL[1][0]), "\n".join(lines[1:-4]))
        self.assertEqual(room_text(ALL[1][1]), "\n".join(lines[-4:]))
        alone = ("z", (("no", "where"),), (), (), (("d", "d", 1, ()),))
        self.assertEqual(room_text(alone), "room z\n  uses no.where\n  door d d 1")

    def test_expr_text(self):
        source = ALL[1][0]
        told = [expr_text(source, ("go", at)) for at, node in enumerate(nodes(source, "go"))
                if node[0] not in ("let", "store", "if", "while", "give", "stop")]
        self.assertEqual(told, [
            "b.d(x)", "x", "k[0]", "0", "x", "x", "x", "x", "((x - 0) * (x rest (0 = x)))", "(x - 0)", "x", "0",
            "(x rest (0 = x))", "x", "(0 = x)", "0", "x", "0", "g(x, j[x])", "x", "j[x]", "x", "k[0]", "0",
            "b.e((x < 0))", "(x < 0)", "x", "0"])
        self.assertEqual(expr_text(source, ("g", 1)), "f()")

    def test_errors(self):
        source = ALL[1][0]
        for value in odd_values():
            self.assertRaises(BadProgram, program_text, value)
            self.assertRaises(BadRoom, room_text, value)
            self.assertRaises(BadRoom, expr_text, value, value)
            if value != ("go", 0) or not isinstance(value, tuple):
                self.assertRaises(BadPlace, expr_text, source, value)
        for at, node in enumerate(nodes(source, "go")):
            if node[0] in ("let", "store", "if", "while", "give", "stop"):
                self.assertRaises(BadPlace, expr_text, source, ("go", at))
        for place in [("go", len(nodes(source, "go"))), ("f", 0), ("go", -1), ("go", True), ["g", 1], ("no", 0)]:
            self.assertRaises(BadPlace, expr_text, source, place)

    def test_no_strings(self):
        for value in odd_values():
            if not isinstance(value, str):
                with self.assertRaises(BadText) as caught:
                    program_of(value)
                self.assertEqual((caught.exception.line, caught.exception.column), (1, 1))

    def test_by_names(self):
        self.assertEqual(program_of(text=program_text(program=ALL)), ALL)
        self.assertEqual(expr_text(place=("g", 1), source=ALL[1][0]), "f()")

    def test_there_and_back(self):
        for seed in range(150):
            program = draw_program(seed, seed % 3 > 0, 180)
            text = program_text(program)
            self.assertEqual(program_of(text), program)
            self.assertEqual(text, "\n".join([f"depth {program[0]}"] + [room_text(room) for room in program[1]]))

    def test_texts_of_two_programs_are_unlike(self):
        texts = {}
        for seed in range(150):
            program = draw_program(seed)
            self.assertEqual(texts.setdefault(program_text(program), program), program)


def spread(text, rng):
    """The text with blanks between tokens, remarks and empty lines put in, and blanks taken out."""
    out = []
    for line in text.split("\n"):
        while rng.random() < 0.3:
            out.append(rng.choice(["", " ", "   ", "# remark", "  # x = (", "     #", "#depth 3"]))
        body = line.lstrip(" ")
        new = line[:len(line) - len(body)]
        for at, sign in enumerate(body):
            if sign == " ":
                both_words = all(one.isalnum() or one == "_" for one in (body[at - 1], body[at + 1]))
                new += " " * rng.choice([1, 2, 5] if both_words else [0, 1, 3])
            else:
                if at and not sign.isalnum() or at and not body[at - 1].isalnum():
                    new += " " * rng.choice([0, 0, 0, 1, 2])
                new += sign
        out.append(new + rng.choice(["", "", " ", "   ", "# remark", " # if ( ##", "#"]))
    while rng.random() < 0.3:
        out.append(rng.choice(["", "  ", "# the end"]))
    return "\n".join(out)


class BlanksTest(unittest.TestCase):
    def test_drawn(self):
        rng = random.Random(5)
        for seed in range(150):
            program = draw_program(seed, seed % 3 > 0, 120)
            self.assertEqual(program_of(spread(program_text(program), rng)), program)
        for _ in range(200):
            self.assertEqual(program_of(spread(ALL_TEXT, rng)), ALL)

    def test_no_blanks_and_many(self):
        self.assertEqual(program_of(EXAMPLE_TEXT.replace("(x < 3)", "(x<3)").replace("x = (x + 1)", "x=(x+1)")), EXAMPLE)
        self.assertEqual(program_of(EXAMPLE_TEXT.replace("(x < 3)", "(  x   <3 ) ").replace("go x", "go    x")), EXAMPLE)
        self.assertEqual(program_of(ALL_TEXT.replace("b.d b.e", " b .d   b. e")), ALL)
        self.assertEqual(program_of(ALL_TEXT.replace("1 - 9999", "1-9999").replace("g(x, j[x])", "g ( x ,j [ x ] )")), ALL)
        self.assertEqual(program_of(EXAMPLE_TEXT.replace("while (", "while(")), EXAMPLE)

    def test_blocks_of_signs(self):
        text = "depth 1\nroom a\n  block b --1-\n  door d x 1"
        self.assertEqual(program_of(text)[1][0][2], (("b", (None, None, 1, None)),))

    def test_remarks(self):
        self.assertEqual(program_of(EXAMPLE_TEXT.replace("\n", "# ( = 4 # room\n") + "#"), EXAMPLE)
        self.assertEqual(program_of("#\n\n   #\n" + EXAMPLE_TEXT + "\n\n  \n       # give\n"), EXAMPLE)


if __name__ == "__main__":
    unittest.main()
