"""Points [18] to [23]: values, steps, undefined steps, runs."""

import sys
import unittest

from drawn import draw_program
from odd import odd_values
from ownharm.errors import (BadLength, BadNumber, BadProgram, BadRoomNumber, BadSteps, OwnharmError)
from ownharm.meaning import Run, source_row
from ownharm.roomtexts import program_of
from plainrun import PlainRun

sys.setrecursionlimit(20000)

WRONG_STEPS = [-1, 10 ** 6 + 1, True, False, None, "1", (1,), [1], {}, 10 ** 99]


def one(body, head="", param="x", size=10000):
    """The program of one room with one door with the lines of the body."""
    lines = "".join("\n    " + line for line in body.split("\n")) if body else ""
    return program_of(f"depth 3\nroom m{head}\n  door go {param} {size}{lines}")


def behind(program, number, steps):
    run = Run(program, number)
    run.go(steps)
    return run


class ValuesTest(unittest.TestCase):
    def value(self, text, number=0, head="\n  block k 5 - 7"):
        run = behind(one("give " + text, head), number, 1000)
        return run.row[-1] if run.state == "done" else (run.state, run.fault)

    def test_values(self):
        told = {"0": 0, "9999": 9999, "x": 4, "k[0]": 5, "k[(1 + 1)]": 7, "(9999 + 2)": 1, "(3 - 5)": 9998,
                "(300 * 400)": 0, "(9999 * 9999)": 1, "(17 rest 5)": 2, "(5 rest 17)": 5, "(5 rest 1)": 0, "(2 < 3)": 1,
                "(3 < 3)": 0, "(4 < 3)": 0, "(3 = 3)": 1, "(3 = 2)": 0, "(0 - 1)": 9999, "((1 - 2) < 1)": 0,
                "(0 rest 5)": 0, "(5000 + 5000)": 0}
        for text, worth in told.items():
            self.assertEqual(self.value(text, 4), ("done", worth), text)

    def test_undefined(self):
        told = {"y": 1, "k[1]": 1, "k[3]": 1, "k[9999]": 1, "(x rest 0)": 1, "(1 + k[1])": 3, "((1 rest 0) + y)": 2,
                "(y + (1 rest 0))": 2, "k[y]": 2, "(y rest 0)": 2, "(k[1] < y)": 2, "k[k[0]]": 1}
        for text, at in told.items():
            self.assertEqual(self.value(text), ("undefined", (0, ("go", at))), text)

    def test_param_is_the_number_modulo_the_size(self):
        for size, number, worth in [(10, 14, 4), (1, 9999, 0), (10000, 9999, 9999), (7, 7, 0), (7, 6, 6)]:
            self.assertEqual(behind(one("give x", size=size), number, 9).row, [("start", number), ("done", worth)])


class StepsTest(unittest.TestCase):
    """Programs with the number of steps behind which each crossing or fault comes."""

    def check(self, program, number, steps, row, state, fault=None):
        for many in range(steps + 4):
            run = behind(program, number, many)
            self.assertEqual(run.steps, min(many, steps))
            over = many >= steps + (state == "undefined")
            self.assertEqual(run.state, state if over else "running")
            self.assertEqual(run.fault, fault if over else None)
            if many >= steps:
                self.assertEqual(run.row, row)
            else:
                self.assertLess(len(run.row), len(row) + (state == "undefined"))

    def done(self, body, steps, worth, head="", number=0):
        self.check(one(body, head), number, steps, [("start", number), ("done", worth)], "done")

    def test_each_kind(self):
        self.done("", 1, 0)
        self.done("give 7", 2, 7)
        self.done("y = 7", 3, 0)
        self.done("y = 7\ngive y", 4, 7)
        self.done("give (1 + x)", 4, 4, number=3)
        self.done("k[0] = 7\ngive k[0]", 6, 7, "\n  block k -")
        self.done("if 1\n  give 2\ngive 3", 4, 2)
        self.done("if 0\n  give 2\ngive 3", 4, 3)
        self.done("if 0\n  give 2\nelse\n  give 4\ngive 3", 4, 4)
        self.done("if 1\n  y = 5\nelse\n  y = 6\ngive y", 6, 5)
        self.done("if 1\nelse\n  give 4\ngive 3", 4, 3)
        self.done("if 9\ngive 3", 4, 3)
        self.done("if 0\n  if 1\n  give 2", 3, 0)
        self.done("if 1\n  if 0\n    give 2", 5, 0)
        self.done("while 0\n  give 1\ngive 3", 4, 3)
        self.done("while x\n  x = (x - 1)", 3 * 6 + 3, 0, number=3)
        self.done("while (x < 3)\n  x = (x + 1)\ngive x", 3 * 8 + 4 + 2, 3)
        self.done("while x\n  if (x = 2)\n  x = (x - 1)\ngive 5", 2 * 10 + 2 + 2, 5, number=2)
        self.done("y = 1\nwhile x\n  while y\n    y = 0\n  x = 0", 2 + 2 + 2 + 2 + 2 + 2 + 2 + 1, 0, number=2)
        self.done("give f()", 4, 7, "\n  function f\n    give 7")
        self.done("give f()", 3, 0, "\n  function f")
        self.done("give f(2, (1 + 1))", 10, 4, "\n  function f p q\n    give (p + q)")
        self.done("give (f(1) - f(3))", 10, 9998, "\n  function f p\n    give p")
        self.check(one("stop"), 5, 1, [("start", 5), ("end", 0)], "end")
        self.check(one("y = 1\nif y\n  stop"), 5, 5, [("start", 5), ("end", 0)], "end")

    def test_each_undefined_step(self):
        row = [("start", 3)]
        for body, steps, at in [("give y", 0, 1), ("y = z", 0, 1), ("give k[2]", 1, 1), ("give k[1]", 1, 1),
                                ("k[2] = 7", 2, 0), ("k[9999] = 7", 2, 0),
                                ("give (x rest 0)", 2, 1), ("if y\n  stop", 0, 1), ("while y", 0, 1), ("k[y] = 1", 0, 1),
                                ("k[0] = y", 1, 2), ("y = (x - 3)\ngive (1 rest y)", 6, 5),
                                ("if 0\n  stop\n  stop\nelse\n  give y", 2, 5)]:
            self.check(one(body, "\n  block k 5 -"), 3, steps, row, "undefined", (0, ("go", at)))

    def test_undefined_steps_change_nothing(self):
        run = behind(one("k[0] = 9\nk[5] = 8", "\n  block k 5 -"), 0, 50)
        self.assertEqual((run.cells(0), run.steps, run.control), ({"k": [9, None]}, 5, 0))
        for _ in range(3):
            run.go(7)
            self.assertEqual((run.steps, run.state, run.row), (5, "undefined", [("start", 0)]))
        self.assertIs(run.reach(1, 5), True)
        self.assertIs(run.reach(2, 5), False)

    def test_undefined_step_in_a_function(self):
        program = one("give (1 + f(x))", "\n  function g p\n    give (p rest 0)\n  function f p\n    give g(p)")
        self.check(program, 3, 2 + 1 + 1 + 1 + 2, [("start", 3)], "undefined", (0, ("g", 1)))

    def test_locals_of_each_running(self):
        # The local y of the function is not that of the door, nor is the one of its next running.
        head = "\n  function f p\n    if p\n      y = 5\n    give y"
        self.assertEqual(behind(one("y = 8\nz = f(1)\ngive y", head), 0, 99).row[-1], ("done", 8))
        run = behind(one("z = f(1)\nz = f(0)", head), 0, 99)
        self.assertEqual(run.fault, (0, ("f", 5)))
        run = behind(one("z = f(1)\ngive y", head), 0, 99)
        self.assertEqual(run.fault, (0, ("go", 4)))

    def test_values_wait_while_functions_run(self):
        head = "\n  function f p\n    p = (p * 10)\n    give (p + 1)\n  function g p q\n    give (p - q)"
        self.assertEqual(behind(one("give ((x + f(2)) + g(f(x), f(1)))", head), 3, 99).row[-1], ("done", 3 + 21 + 31 - 11))


TWO = """depth {depth}
room a
  uses b.d b.e
  block n 0
  door go x 100
    n[0] = (n[0] + 1)
    y = x
    if (x < 20)
      y = b.d((x + 1))
    give ((y * 2) + (x + n[0]))
  door to x 10000
    stop
room b
  uses a.go a.to
  block n 7
  door d x 100
    n[0] = (n[0] + x)
    give ((x + a.go((x + 5))) + n[0])
  door e x 10
"""


class RunsTest(unittest.TestCase):
    def test_the_example(self):
        a = ("a", (("b", "add"),), (), (), (("go", "x", 10, (
            ("let", "y", ("ask", "b", "add", ("plus", ("local", "x"), ("number", 1)))),
            ("give", ("times", ("local", "y"), ("number", 2))))),))
        b = ("b", (), (("n", (0,)),), (), (("add", "p", 10000, (
            ("store", "n", ("number", 0), ("plus", ("cell", "n", ("number", 0)), ("local", "p"))),
            ("give", ("cell", "n", ("number", 0))))),))
        row = [("start", 14), ("call", 0, 1, 0, 5), ("back", 1, 0, 5), ("done", 10)]
        for many in range(25):
            run = behind((1, (a, b)), 14, many)
            crossings = 1 + sum(1 for at in (4, 13, 18) if at <= many)
            self.assertEqual(run.row, row[:crossings])
            self.assertEqual(run.control, None if many >= 18 else 1 if 4 <= many < 13 else 0)
            self.assertEqual(source_row((1, (a, b)), 14, many), row[:crossings])
        unset = (1, (a, ("b", (), (("n", (None,)),), (), b[4])))
        for many in range(10):
            run = behind(unset, 14, many)
            self.assertEqual((run.steps, run.fault), (min(many, 6), (1, ("add", 3)) if many > 6 else None))
            self.assertEqual(run.state, "undefined" if many > 6 else "running")
            self.assertEqual(run.control, 1 if many >= 4 else 0)

    def test_asks_one_within_another(self):
        program = program_of(TWO.format(depth=60))
        run = behind(program, 8, 10 ** 5)
        self.assertEqual(run.state, "done")
        self.assertEqual(run.row[:5], [("start", 8), ("call", 0, 1, 0, 9), ("call", 1, 0, 0, 14), ("call", 0, 1, 0, 15),
                                       ("call", 1, 0, 0, 20)])
        # The cells are shared by all runnings, the locals are each one's own.
        inner = 20 * 2 + 20 + 3
        outer = 15 + inner + 31
        middle = outer * 2 + 14 + 3
        last = 9 + middle + 31
        self.assertEqual(run.row[5:], [("back", 0, 1, inner), ("back", 1, 0, outer), ("back", 0, 1, middle),
                                       ("back", 1, 0, last), ("done", last * 2 + 8 + 3)])
        self.assertEqual((run.cells(0), run.cells(1)), ({"n": [3]}, {"n": [31]}))

    def test_depth(self):
        full = behind(program_of(TWO.format(depth=60)), 8, 10 ** 5).row
        for depth in range(1, 7):
            run = behind(program_of(TWO.format(depth=depth)), 8, 10 ** 5)
            if depth >= 4:
                self.assertEqual((run.state, run.row), ("done", full))
            else:
                self.assertEqual((run.state, run.control), ("deep", None))
                self.assertEqual(run.row, full[:depth + 1] + [("deep",) + full[depth + 1][1:]])
                self.assertEqual(run.steps, behind(program_of(TWO.format(depth=60)), 8, run.steps).steps)

    def test_sixty_open_asks(self):
        text = ("depth {}\nroom a\n  uses b.d\n  door d x 10000\n    if (x < {})\n      give b.d((x + 1))\n    give x\n"
                "room b\n  uses a.d\n  door d x 10000\n    if (x < {})\n      give a.d((x + 1))\n    give x")
        run = behind(program_of(text.format(60, 60, 60)), 0, 10 ** 5)
        self.assertEqual((run.state, len(run.row), run.row[-1]), ("done", 122, ("done", 60)))
        run = behind(program_of(text.format(60, 61, 61)), 0, 10 ** 5)
        self.assertEqual((run.state, len(run.row), run.row[-1]), ("deep", 62, ("deep", 0, 1, 0, 61)))
        run = behind(program_of(text.format(59, 60, 60)), 0, 10 ** 5)
        self.assertEqual((run.state, len(run.row), run.row[-1]), ("deep", 61, ("deep", 1, 0, 0, 60)))

    def test_stop_in_each_room(self):
        text = "depth 2\nroom a\n  uses b.d\n  door go x 9\n    y = b.d(x)\n    {}\nroom b\n  uses c.d\n  door d x 9\n" \
               "    y = c.d(x)\n    {}\nroom c\n  door d x 9\n    {}"
        for room in range(3):
            words = ["give y", "give y", "give 1"]
            words[room] = "stop"
            run = behind(program_of(text.format(*words)), 5, 1000)
            self.assertEqual((run.row[-1], run.state, run.control), (("end", room), "end", None))
            self.assertEqual(len(run.row), 6 - room)

    def test_end_of_a_body_gives_0(self):
        text = "depth 2\nroom a\n  uses b.d\n  door go x 9\n    y = b.d(x)\n    give (y + 4)\nroom b\n  door d x 9\n    y = 3"
        run = behind(program_of(text), 5, 1000)
        self.assertEqual(run.row, [("start", 5), ("call", 0, 1, 0, 5), ("back", 1, 0, 0), ("done", 4)])

    def test_silent_for_ever(self):
        run = behind(one("while 1\n  x = (x + 1)"), 0, 10 ** 6)
        self.assertEqual((run.steps, run.state, run.row, run.control), (10 ** 6, "running", [("start", 0)], 0))
        run.go(10)
        self.assertEqual(run.steps, 10 ** 6 + 10)

    def test_cells(self):
        program = one("k[1] = 6\nj[0] = k[1]", "\n  block k 5 -\n  block j 1")
        told = {0: {"k": [5, None], "j": [1]}, 3: {"k": [5, 6], "j": [1]}, 7: {"k": [5, 6], "j": [6]}}
        for many, worth in told.items():
            self.assertEqual(behind(program, 0, many).cells(0), worth)
        run = behind(program, 0, 3)
        run.cells(0)["k"][0] = 99
        run.cells(0).clear()
        run.row.clear()
        self.assertEqual((run.cells(0), run.row), ({"k": [5, 6], "j": [1]}, [("start", 0)]))
        self.assertEqual(behind(one(""), 0, 0).cells(0), {})


class ReachTest(unittest.TestCase):
    def test_stops_at_the_very_step(self):
        program = program_of(TWO.format(depth=60))
        whole = behind(program, 8, 10 ** 5)
        for length in range(len(whole.row) + 3):
            run = Run(program, 8)
            reached = run.reach(length, 10 ** 6)
            self.assertIs(reached, length <= len(whole.row))
            expected = max(length, 1) if reached else len(whole.row)
            self.assertEqual(run.row, whole.row[:expected])
            if length <= 1:
                self.assertEqual(run.steps, 0)
            elif reached:
                self.assertEqual(len(behind(program, 8, run.steps - 1).row), length - 1)
                one_less = Run(program, 8)
                self.assertIs(one_less.reach(length, run.steps - 1), False)
                self.assertEqual(one_less.steps, run.steps - 1)
                just = Run(program, 8)
                self.assertIs(just.reach(length, run.steps), True)
                again = run.steps
                self.assertIs(run.reach(length, 1000), True)
                self.assertIs(run.reach(0, 1000), True)
                self.assertEqual(run.steps, again)

    def test_the_undefined_step_behind_it_is_not_tried(self):
        text = "depth 1\nroom a\n  uses b.d\n  door go x 9\n    y = b.d(x)\n    give z\nroom b\n  door d x 9\n    give x"
        run = Run(program_of(text), 3)
        self.assertIs(run.reach(3, 100), True)
        self.assertEqual((run.state, run.fault), ("running", None))
        run.go(0)
        self.assertEqual(run.state, "running")
        self.assertIs(run.reach(4, 0), False)
        self.assertEqual(run.state, "running")
        self.assertIs(run.reach(4, 2), False)
        self.assertEqual((run.state, run.fault, run.control), ("undefined", (0, ("go", 4)), 0))

    def test_errors(self):
        program = one("stop")
        run = Run(program, 3)
        for length in [-1, True, False, None, "0", (0,), [], {}, -(10 ** 99)]:
            self.assertRaises(BadLength, run.reach, length, 5)
            self.assertRaises(BadLength, run.reach, length, -1)
        for steps in WRONG_STEPS:
            self.assertRaises(BadSteps, run.reach, 0, steps)
            self.assertRaises(BadSteps, run.reach, 10 ** 99, steps)
        self.assertEqual((run.steps, run.state), (0, "running"))
        self.assertIs(run.reach(length=10 ** 99, steps=10 ** 6), False)


class ErrorsTest(unittest.TestCase):
    def test_in_their_order(self):
        program = one("stop")
        for value in odd_values():
            self.assertRaises(BadProgram, Run, value, -1)
            self.assertRaises(BadProgram, source_row, value, -1, -1)
            if not (isinstance(value, int) and not isinstance(value, bool) and 0 <= value < 10000):
                self.assertRaises(BadNumber, Run, program, value)
                self.assertRaises(BadNumber, source_row, program, value, -1)
        for steps in WRONG_STEPS:
            run = Run(program, 0)
            self.assertRaises(BadSteps, run.go, steps)
            self.assertRaises(BadSteps, source_row, program, 0, steps)
            self.assertEqual((run.steps, run.row), (0, [("start", 0)]))
        run = Run(program, 0)
        for room in [-1, 1, True, False, None, "m", "0", (0,), [0], {}, 10 ** 99]:
            self.assertRaises(BadRoomNumber, run.cells, room)
        self.assertEqual(Run(number=9999, program=program).row, [("start", 9999)])
        self.assertTrue(issubclass(BadNumber, OwnharmError))

    def test_runs_are_no_rows(self):
        run = Run(one("stop"), 0)
        self.assertRaises(TypeError, iter, run)
        self.assertRaises(TypeError, lambda: 1 in run)
        for value in odd_values():
            self.assertFalse(run == value)
        self.assertEqual(run, run)
        self.assertIsNone(run.go(steps=1))


class DrawnTest(unittest.TestCase):
    """Runs beside runs by plain recursion, which are written apart from the package."""

    def moment(self, program, run):
        return (run.row, [run.cells(room) for room in range(len(program[1]))], run.control, run.state)

    def test_step_by_step(self):
        states = {}
        for seed in range(400):
            program = draw_program(seed, seed % 4 > 0)
            plain = PlainRun(program, seed * 7 % 10000, 400)
            run = Run(program, seed * 7 % 10000)
            for steps, moment in enumerate(plain.moments):
                self.assertEqual(run.steps, steps)
                self.assertEqual(self.moment(program, run), moment)
                run.go(1)
            if plain.state != "running":
                self.assertEqual((run.state, run.fault), (plain.state, plain.fault))
                self.assertEqual(run.steps, len(plain.moments) - 1)
            states[plain.state] = states.get(plain.state, 0) + 1
        self.assertTrue(all(states.get(state, 0) > 10 for state in ["running", "deep", "done", "end", "undefined"]))

    def test_in_any_portions(self):
        for seed in range(150):
            program = draw_program(seed, True)
            plain = PlainRun(program, seed, 300)
            last = len(plain.moments) - 1
            for many in {0, 1, last // 2, last - 1, last, last + 1, last + 2}:
                if 0 <= many and not (plain.state == "running" and many > last):
                    run = behind(program, seed, many)
                    self.assertEqual(run.steps, min(many, last))
                    self.assertEqual(self.moment(program, run)[:3], plain.moments[min(many, last)][:3])
                    self.assertEqual(source_row(program, seed, many), run.row)
                    self.assertEqual(run.state, "undefined" if plain.fault and many > last else
                                     plain.moments[min(many, last)][3])
            run = Run(program, seed)
            for portion in [0, 3, 1, last, 5, 2]:
                run.go(portion)
            other = behind(program, seed, 11 + last)
            self.assertEqual(self.moment(program, run), self.moment(program, other))


if __name__ == "__main__":
    unittest.main()
