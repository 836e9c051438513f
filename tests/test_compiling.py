"""Points [36] to [43]: rooms compiled, beside any sections; boards."""

import random
import unittest

from drawn import draw_program
from drawnsections import draw_section, noise
from odd import odd_values
from ownharm.boards import board_of
from ownharm.compiling import compiled, layout, places_of
from ownharm.errors import BadProgram, BadRoomNumber, BadSections, TooLarge
from ownharm.machine import Machine, machine_row
from ownharm.meaning import Run, source_row
from ownharm.rooms import face_of, is_program, nodes, part_names
from ownharm.roomtexts import program_of
from ownharm.sections import is_board, is_section
from watch import Watch

MAIN = ("main", (), (), (), (("go", "x", 10, (("give", ("plus", ("local", "x"), ("number", 1))),)),))
EXAMPLE = (1, (MAIN,))

# Rooms that call one another back at any depth, with locals, inner values and functions that wait.
BACK = program_of("""depth 60
room main
  uses far.f far.g
  block n 0 5 -
  function two p q
    r = (far.f((p - 1)) + (p * (far.g(q) - p)))
    n[1] = (n[1] + r)
    give (r + (q - n[1]))
  function one p
    if (p < 3)
      give two(p, (p + 1))
    give ((two(p, far.f((p - 2))) * 3) + two((p - 1), two(p, p)))
  door go x 50
    y = x
    n[0] = (n[0] + 1)
    if (x = 0)
      give 7
    z = ((y + (x * far.f((x - 1)))) - (one(x) + ((x + y) * (n[0] + far.g(x)))))
    give ((z + y) rest (x + 1))
  door back x 10000
    w = x
    if (w < 2)
      give (n[0] + n[1])
    n[2] = w
    v = far.g((w - 2))
    give ((w * 3) + (v - n[2]))
room far
  uses main.back main.go
  block m 1
  door f a 10000
    b = a
    if (a < 1)
      give m[0]
    m[0] = (m[0] + a)
    give ((main.back((a - 1)) + b) * (a + main.go((a rest 3))))
  door g a 10000
    if (a < 2)
      give a
    give (main.back((a rest 4)) + a)
""")

LOOPS = program_of("""depth 2
room main
  uses sum.add sum.get
  block t 3 1 4 1 5 9
  function fac n
    r = 1
    while n
      r = (r * n)
      n = (n - 1)
    give r
  function no
  function deep a b c d
    while (a < b)
      while (c < d)
        if (c = 2)
          c = (c + 2)
        else
          if ((c rest 2) = 0)
            c = (c + 1)
          else
            while 0
            if a
              if b
                if d
                  c = (c + 1)
      a = (a + 1)
      c = 0
    give ((a * 100) + ((b * 10) + c))
  door go x 7
    i = 0
    while (i < 6)
      q = sum.add((t[i] * fac(i)))
      t[i] = ((t[i] = 1) + (t[(5 - i)] < q))
      i = (i + 1)
    give (sum.get(x) + (no() + deep(x, 6, (x rest 2), 5)))
room sum
  block s 0
  door add n 10000
    s[0] = (s[0] + n)
    give s[0]
  door get k 10000
    if (k = 6)
      stop
    if k
    else
      give (s[0] rest 9973)
    give s[0]
""")

# What is run, with arguments and without, while values wait.
RUNS = program_of("""depth 1
room main
  block c 5 6 7 8
  function no
    a = 9
    b = (a * (a + 1))
    give (b + 1)
  function two p q
    r = (p * 3)
    give (r - q)
  door go x 10000
    y = (x + no())
    z = (no() + x)
    c[(x rest 4)] = no()
    c[(no() rest 4)] = (x + no())
    c[2] = two(1, x)
    w = two(x, no())
    v = two(no(), x)
    u = two(two(x, 1), two(no(), two(2, x)))
    give ((y + (z * no())) + (((w + v) * u) + (c[(no() rest 4)] + (c[1] * two(c[2], c[3])))))
""")

# Too many values wait for all of them to lie in registers.
CHAIN = ("number", 3)
for _k in range(1, 11):
    CHAIN = (("plus", "minus", "times", "less", "same")[_k % 5], ("number", _k), CHAIN)
TALL = (1, (("tall", (), (("c", (4, 5, 6, 7)),), (), (("go", "x", 10000, (
    ("let", "y", CHAIN), ("store", "c", ("rest", ("local", "x"), ("number", 4)), CHAIN[2][2]),
    ("give", ("plus", ("cell", "c", ("rest", CHAIN[2][2][2], ("number", 4))), ("local", "y"))),)),)),))


def with_depth(program, depth):
    return (depth, program[1])


def told_foreign(rng, program, many):
    """Foreign sections for about so much of the rooms."""
    _, wires, doors = face_of(program)
    return {room: draw_section(rng, wires[room], doors[room]) for room in range(len(doors)) if rng.random() < many}


def asking_section(rng, wires, doors, turns):
    """A section that asks again and again along its wires, each time with other numbers in all registers."""
    cells = []
    for _ in range(turns):
        if wires and rng.random() < 0.8:
            room, door = rng.choice(wires)
            cells += noise(rng) + [1000, rng.randrange(20), 1100, room, 1200, door, 9120]
        if rng.random() < 0.3:
            cells += noise(rng) + [9005]
    cells += noise(rng) + [1000, rng.randrange(20), 9005]
    return (tuple(cells), (0,) + tuple(rng.choice([0, len(cells) - 1, len(cells) - 3]) for _ in range(doors - 1)))


class WatchTest(unittest.TestCase):
    def watch(self, program, foreign, number, steps, depth=None):
        watch = Watch(self, program, foreign, number, depth)
        watch.go(steps)
        return watch

    def test_calls_back_at_any_depth(self):
        for depth in [1, 2, 3, 7, 20]:
            program = with_depth(BACK, depth)
            for number in [0, 1, 2, 3, 4, 7, 49, 9999]:
                watch = self.watch(program, {}, number, 6000)
                self.assertEqual(watch.faults, [])
                row = watch.machine.row
                self.assertEqual(row, source_row(program, number, 20000)[:len(row)])

    def test_the_deepest_calls_back(self):
        program = program_of("""depth 60
room main
  uses far.f
  function h p
    q = (p * 3)
    give ((q + far.f((p + 1))) - q)
  door go x 10000
    y = (x * 2)
    give ((y + (x + h(x))) - y)
room far
  uses main.go
  door f a 10000
    b = (a * 5)
    if (a = 59)
      give 1
    give (b - (main.go((a + 1)) + b))
""")
        for number in [0, 1, 31, 50]:
            watch = self.watch(program, {}, number, 10 ** 5)
            self.assertEqual(watch.machine.row, source_row(program, number, 10 ** 5))
            self.assertEqual(watch.faults, [])
        self.assertEqual(len(source_row(program, 0, 10 ** 5)), 2 + 2 * 59)
        self.assertEqual(source_row(program, 1, 10 ** 5)[-1][0], "deep")

    def test_loops_and_functions(self):
        states = []
        for number in range(7):
            watch = self.watch(LOOPS, {}, number, 20000)
            self.assertEqual((watch.machine.row, watch.faults), (source_row(LOOPS, number, 10 ** 4), []))
            states.append(watch.machine.state)
        self.assertEqual(states, ["running"] + ["done"] * 5 + ["end"])

    def check_done(self, program, number):
        """The machine shows what the source shows, which comes to an end without an undefined step."""
        watch = self.watch(program, {}, number, 2000)
        self.assertEqual((watch.machine.row, watch.faults), (source_row(program, number, 1000), []))
        self.assertEqual(watch.machine.state, "done")

    def test_runs_while_values_wait(self):
        for number in [0, 1, 2, 3, 7, 100, 9999]:
            self.check_done(RUNS, number)

    def test_more_values_than_registers(self):
        self.assertTrue(is_program(TALL))
        for number in range(9):
            self.check_done(TALL, number)

    def test_each_height_of_each_expression(self):
        """An expression of each kind as the last operand while so many others wait, to the left or to the right."""
        ask = ("ask", "o", "d", ("local", "x"))
        lasts = [("number", 7), ("local", "x"), ("cell", "c", ("number", 2)), ("cell", "c", ("rest", ("local", "x"), ("number", 3))),
                 ("run", "no", ()), ("run", "one", (("local", "x"),)), ask, ("same", ("local", "x"), ("number", 3)),
                 ("less", ("number", 2), ask), ("same", ask, ask), ("minus", ("cell", "c", ("number", 1)), ("local", "x"))]
        functions = (("no", (), (("let", "a", ("number", 8)), ("give", ("times", ("local", "a"), ("number", 5))))),
                     ("one", ("p",), (("give", ("minus", ("local", "p"), ("run", "no", ()))),)))
        other = ("o", (), (), (), (("d", "k", 10000, (("give", ("plus", ("local", "k"), ("number", 9))),)),))
        for last in lasts:
            for height in range(8):
                right = left = last
                for at in range(height):
                    word = ("plus", "minus", "times", "same")[at % 4]
                    right = (word, ("plus", ("local", "x"), ("number", at)), right)
                    left = (word, left, ("plus", ("number", at), ("local", "x")))
                body = (("let", "y", right), ("store", "c", ("number", 0), left), ("give", ("plus", ("local", "y"), (
                    "cell", "c", ("number", 0)))))
                room = ("main", (("o", "d"),), (("c", (1, 2, 3)),), functions, (("go", "x", 10000, body),))
                self.check_done((1, (room, other)), 3)

    def test_drawn_programs_beside_drawn_sections(self):
        faults, crossings, states = 0, 0, {}
        for seed in range(260):
            rng = random.Random(seed)
            program = with_depth(draw_program(seed, seed % 3 > 0, rng.choice([20, 40, 80])), (1, 2, 60)[seed % 3])
            foreign = told_foreign(rng, program, rng.choice([0, 0.3, 0.6]))
            try:
                watch = self.watch(program, foreign, rng.choice([0, 3, 9999, rng.randrange(10000)]), 1200)
            except TooLarge:
                continue
            faults += len(watch.faults)
            crossings += len(watch.machine.row)
            states[watch.machine.state] = states.get(watch.machine.state, 0) + 1
        self.assertGreater(faults, 30)
        self.assertGreater(crossings, 1000)
        self.assertEqual(set(states), {"running", "deep", "done", "end"})

    def test_beside_sections_that_leave_other_numbers_in_all_registers(self):
        for seed in range(60):
            rng = random.Random(seed)
            program = with_depth((BACK, LOOPS)[seed % 2], (1, 2, 20)[seed % 3])
            _, wires, doors = face_of(program)
            room = rng.randrange(2)
            foreign = {room: asking_section(rng, wires[room], doors[room], rng.choice([2, 6, 15]))}
            watch = self.watch(program, foreign, rng.randrange(10000), 1500)
            self.assertTrue(all(fault[0] != room for fault in watch.faults))

    def test_a_board_of_less_depth(self):
        for depth in [1, 2, 5]:
            watch = self.watch(with_depth(BACK, 20), {}, 5, 3000, depth)
            self.assertEqual(watch.faults, [])
            self.assertEqual(watch.machine.row, source_row(with_depth(BACK, depth), 5, 10 ** 4)[:len(watch.machine.row)])

    def test_an_undefined_step_is_the_fault_of_one_room(self):
        """One room comes to an undefined step; the others keep their views, and stay as the watch demands."""
        program = program_of("""depth 3
room main
  uses odd.read even.count
  door go x 10000
    y = even.count(x)
    z = odd.read(x)
    w = even.count(z)
    give ((y + z) + w)
room odd
  uses even.count
  block b 5 - 7
  door read i 10000
    u = (even.count(1) * 0)
    if (i = 50)
      b[i] = 9005
    if (i = 60)
      give (i rest u)
    give b[i]
room even
  block n 10
  door count x 10000
    n[0] = (n[0] + x)
    give n[0]
""")
        for number in [0, 1, 2, 3, 4, 50, 60, 100, 4000, 9999]:
            run = Run(program, number)
            run.go(10 ** 4)
            watch = self.watch(program, {}, number, 5000)
            row = watch.machine.row
            if number in (0, 2):
                self.assertEqual((row, watch.faults, run.state), (run.row, [], "done"))
            else:
                self.assertEqual(row[:len(run.row)], run.row)
                self.assertEqual(watch.faults, [(*run.fault, len(run.row))])
            self.assertTrue(watch.rooms[2].sound)

    def test_an_undefined_step_behind_a_local_that_is_not_set(self):
        program = program_of("""depth 1
room main
  uses b.d
  door go x 3
    if x
      y = 4
    z = b.d(8)
    give (y + z)
room b
  door d p 10
    give p
""")
        for number in range(3):
            watch = self.watch(program, {}, number, 500)
            run = Run(program, number)
            run.go(500)
            self.assertEqual(watch.faults, [] if number else [(0, ("go", 9), 3)])
            self.assertEqual(watch.machine.row[:len(run.row)], run.row)

    def test_rooms_silent_for_ever(self):
        program = program_of("depth 1\nroom a\n  door go x 2\n    while x\n    while (x = 0)\n      y = 1")
        for number in [0, 1]:
            watch = self.watch(program, {}, number, 3000)
            self.assertEqual((watch.machine.row, watch.machine.state), ([("start", number)], "running"))


class SectionsTest(unittest.TestCase):
    def test_example(self):
        told = places_of(EXAMPLE, 0)
        self.assertEqual({place for place in told if place is not None}, {("go", at) for at in range(5)})
        self.assertEqual(layout(EXAMPLE, 0), {})
        machine = Machine(board_of(EXAMPLE), 41)
        places = []
        while machine.state == "running":
            places.append(told[machine.at[1]])
            machine.go(1)
        self.assertEqual([place for place in places if place is not None], [("go", 2), ("go", 3), ("go", 1), ("go", 0)])
        self.assertEqual((machine.row, machine.registers), ([("start", 41), ("done", 2)], (2,) + (0,) * 9))

    def test_every_place_is_told_and_no_other_one(self):
        for seed in range(50):
            program = draw_program(seed, seed % 3 > 0)
            for room, source in enumerate(program[1]):
                try:
                    told = places_of(program, room)
                except TooLarge:
                    continue
                self.assertIsInstance(told, list)
                self.assertEqual(len(told), len(compiled(program, room)[0]))
                places = {(part, at) for part in part_names(source) for at in range(len(nodes(source, part)) + 1)}
                self.assertEqual({place for place in told if place is not None}, places)

    def test_sections_and_layouts(self):
        for seed in range(50):
            program = draw_program(seed, seed % 3 > 0)
            for room, source in enumerate(program[1]):
                try:
                    cells, entries = compiled(room=room, program=program)
                except TooLarge:
                    continue
                self.assertTrue(is_section((cells, entries)))
                self.assertEqual(len(entries), len(source[4]))
                told, places, taken = layout(program, room), places_of(program, room), []
                self.assertEqual(set(told), {block[0] for block in source[2]})
                for name, values in source[2]:
                    for index, value in enumerate(values):
                        address = told[name] + index
                        taken.append(address)
                        self.assertIsNone(places[address])
                        if value is not None:
                            self.assertEqual(cells[address], value)
                self.assertEqual(len(taken), len(set(taken)))

    def test_made_from_the_room_its_wires_and_the_depth_alone(self):
        one = program_of("""depth 4
room b
  uses c.e a.d
  block n 1 2
  function f p
    give (p + c.e(n[p]))
  door go x 9
    give (f(x) + a.d(3))
room a
  door d y 5
  door d2 y 5
room c
  uses a.d2
  door e z 10000
    give (a.d2(z) * 2)
""")
        # The same numbers of rooms and doors in its wires; other doors, imports, blocks and texts elsewhere.
        other = (4, (one[1][0], ("a", (("b", "go"),), (("k", (1,) * 99),), (), (("d", "q", 1, (("stop",),)),)),
                     ("c", (), (), (("h", ("a", "b"), ()),), (("e", "q", 3, ()), ("go", "q", 3, ())))))
        self.assertTrue(is_program(other))
        for told in [compiled, layout, places_of]:
            self.assertEqual(told(one, 0), told(other, 0))
        # The same room with another number of its own, its partners where they were.
        first = (2, (("a", (), (), (), (("d", "y", 5, ()),)), ("x", (("a", "d"),), (), (), (("go", "k", 5, (
            ("give", ("ask", "a", "d", ("local", "k"))),)),)), ("y", (), (), (), (("d", "y", 5, ()),))))
        second = (2, (first[1][0], first[1][2], first[1][1]))
        for told in [compiled, layout, places_of]:
            self.assertEqual(told(first, 1), told(second, 2))
        self.assertNotEqual(compiled((2, first[1]), 1), compiled((4, first[1]), 1))

    def test_other_wires_other_sections(self):
        door = ("go", "k", 5, (("give", ("ask", "a", "d", ("local", "k"))),))
        asker = ("x", (("a", "d"),), (), (), (door,))
        plain = ("a", (), (), (), (("d", "y", 5, ()),))
        two = ("a", (), (), (), (("e", "y", 5, ()), ("d", "y", 5, ())))
        self.assertNotEqual(compiled((1, (asker, plain)), 0), compiled((1, (asker, two)), 0))
        for partner in [plain, two]:
            program = (1, (asker, partner))
            self.assertEqual(machine_row(board_of(program), 3, 500), source_row(program, 3, 500))

    def test_lists_and_dicts_are_new(self):
        program = with_depth(BACK, 3)
        layout(program, 0).clear()
        places_of(program, 0).clear()
        self.assertEqual(set(layout(program, 0)), {"n"})
        self.assertTrue(places_of(program, 0))

    def test_errors_in_their_order(self):
        large = (60, (("m", (), tuple((word, (0,) * 400) for word in "abcdef"), (), (
            ("go", "x", 9, (("let", "x", ("number", 1)),) * 100),) + tuple((f"d{k}", "x", 9, (
                ("let", "x", ("number", 1)),) * 100) for k in range(5))),))
        self.assertTrue(is_program(large))
        for told in [layout, compiled, places_of]:
            for value in odd_values():
                self.assertRaises(BadProgram, told, value, -1)
                if not (type(value) is int and value == 0):
                    self.assertRaises(BadRoomNumber, told, EXAMPLE, value)
                    self.assertRaises(BadRoomNumber, told, large, value)
            with self.assertRaises(TooLarge) as caught:
                told(large, 0)
            self.assertEqual(caught.exception.room, 0)


def counts(program, room):
    """n, p, c, v and f of [42]."""
    source = program[1][room]
    found = [nodes(source, part) for part in part_names(source)]
    v = 0
    for part, inner in zip(source[3] + source[4], found):
        params = part[1] if len(part) == 3 else (part[1],)
        v += len(set(params) | {node[1] for node in inner if node[0] in ("let", "local")})
    return sum(map(len, found)), len(found), sum(len(block[1]) for block in source[2]), v, program[0] // 2 + 1


def least_bound(program, room):
    n, p, c, v, f = counts(program, room)
    return c + 25 * (n + 2 * p) + f * (n + v + p)


def blocks_of(cells):
    """Blocks with so many cells together."""
    found = []
    while cells:
        many = min(400, cells)
        found.append((f"b{len(found)}", (0,) * many))
        cells -= many
    return tuple(found)


def greedy_parts(rng, kind, nodes_left):
    """Functions and doors with about so many nodes, all of one kind that takes many cells."""
    ask = ("ask", "o", "d", ("number", 1))
    run = ("run", "f", (("local", "q"), ask, ("run", "g", ()), ask))
    statements = {
        "give": ("give", ("number", 1)), "ask": ("let", "a", ask), "run": ("let", "a", run),
        "pair": ("let", "a", ("same", ask, ("same", ask, ("same", ask, ("number", 1))))), "stop": ("stop",),
        "store": ("store", "b0", ask, ask), "if": ("if", ("number", 1), (), ()), "while": ("while", ("local", "a"), ()),
        "let": ("let", "a", ("local", "a")),
    }
    statement = statements[kind]
    sizes = {"give": 2, "ask": 3, "run": 8, "pair": 11, "stop": 1, "store": 5, "if": 2, "while": 2, "let": 2}
    size = sizes[kind]
    functions, doors = [("g", (), ()), ("f", ("p", "q", "r", "s"), ())], []
    while nodes_left >= size and len(doors) < 6:
        many = min(200 // size, nodes_left // size, rng.choice([3, 20, 200]))
        doors.append((f"d{len(doors)}", "q", 9, (statement,) * many))
        nodes_left -= many * size
    return tuple(functions), tuple(doors) or (("d0", "q", 9, ()),)


class LargeTest(unittest.TestCase):
    OTHER = ("o", (), (), (), (("d", "x", 9, ()),))

    def program(self, depth, cells, functions, doors):
        program = (depth, (("m", (("o", "d"),), blocks_of(cells), functions, doors), self.OTHER))
        self.assertTrue(is_program(program))
        return program

    def test_just_within_the_bound(self):
        rng = random.Random(1)
        for kind in ["give", "ask", "run", "pair", "stop", "store", "if", "while", "let"]:
            for depth in [1, 2, 8, 60]:
                most = 4000 // (25 + depth // 2 + 1)
                functions, doors = greedy_parts(rng, kind, most)
                while True:
                    program = self.program(depth, 1, functions, doors)
                    left = 4000 - least_bound(program, 0)
                    if left >= 0:
                        break
                    body = doors[-1][3][:-1]
                    doors = doors[:-1] + ((*doors[-1][:3], body),) if body else doors[:-1]
                program = self.program(depth, min(2400, 1 + left), functions, doors)
                self.assertTrue(least_bound(program, 0) == 4000 or counts(program, 0)[2] == 2400)
                self.assertTrue(is_section(compiled(program, 0)))
                self.assertTrue(is_board(board_of(program)))

    def test_many_empty_parts(self):
        functions = tuple((f"f{k}", ("a", "b", "c", "e"), ()) for k in range(6))
        doors = tuple((f"d{k}", "x", 9, ()) for k in range(6))
        for depth in [1, 2, 60]:
            for many in range(1, 7):
                program = self.program(depth, 0, functions[:many], doors[:many])
                left = 4000 - least_bound(program, 0)
                if left >= 0:
                    program = self.program(depth, min(2400, left), functions[:many], doors[:many])
                    self.assertTrue(is_section(compiled(program, 0)))

    def test_drawn_rooms_take_no_more_cells(self):
        for seed in range(80):
            for depth in [1, 2, 60]:
                program = with_depth(draw_program(seed, seed % 3 > 0, 30), depth)
                for room in range(len(program[1])):
                    bound = least_bound(program, room)
                    if bound <= 4000:
                        self.assertLessEqual(len(compiled(program, room)[0]), bound)

    def test_just_beyond_the_other_bound(self):
        program = self.program(1, 2400, tuple((f"f{k}", (), (("stop",),) * 200) for k in range(6)), (
            ("d0", "x", 9, (("stop",),) * 200), ("d1", "x", 9, (("stop",),) * 192)))
        self.assertEqual(sum(counts(program, 0)[:3]), 4000)
        program = self.program(1, 2400, program[1][0][3], (program[1][0][4][0], ("d1", "x", 9, (("stop",),) * 193)))
        self.assertEqual(sum(counts(program, 0)[:3]), 4001)
        for told in [compiled, layout, places_of]:
            self.assertRaises(TooLarge, told, program, 0)


class BoardTest(unittest.TestCase):
    def test_compiled_and_foreign(self):
        program = with_depth(BACK, 4)
        self.assertEqual(board_of(program), (4, face_of(program)[1], (compiled(program, 0), compiled(program, 1))))
        self.assertEqual(board_of(program, None), board_of(program, {}))
        told = ((1, 2, 3), (0, 9999))
        self.assertEqual(board_of(foreign={1: told}, program=program)[2], (compiled(program, 0), told))
        self.assertEqual(board_of(program, {0: told, 1: told})[2], (told, told))
        self.assertTrue(is_board(board_of(program, {0: told})))

    def test_wrong_sections(self):
        program = with_depth(BACK, 4)
        two = ((1, 2, 3), (0, 0))
        for foreign in [{True: two}, {False: two}, {2: two}, {-1: two}, {None: two}, {"0": two}, {(0,): two}, {10 ** 99: two},
                        {0: ((1,), (0,))}, {0: ((1,), (0, 0, 0))}, {0: None}, {0: [(1,), (0, 0)]}, {0: ((1,), [0, 0])},
                        {0: two, 1: ((1,), (0,))}, {0: two, 2: two}, {1: ((True,), (0, 0))}, {1: ((), (0, 0))},
                        {0: ((0,) * 4001, (0, 0))}]:
            self.assertRaises(BadSections, board_of, program, foreign)
        for value in odd_values():
            self.assertRaises(BadProgram, board_of, value, 5)
            if value is not None and value != {}:
                self.assertRaises(BadSections, board_of, program, value)
            self.assertRaises(BadSections, board_of, program, {0: value})

    def test_too_large(self):
        large = tuple((f"d{k}", "x", 9, (("give", ("local", "x")),) * 90) for k in range(6))
        rooms = (("a", (), (), (), (("d", "x", 1, ()),)), ("b", (), (), (), large), ("c", (), (), (), large))
        program = (60, rooms)
        section = ((0,), (0,) * 6)
        for foreign, room in [(None, 1), ({}, 1), ({1: section}, 2), ({2: section}, 1)]:
            with self.assertRaises(TooLarge) as caught:
                board_of(program, foreign)
            self.assertEqual(caught.exception.room, room)
        self.assertTrue(is_board(board_of(program, {1: section, 2: section})))
        self.assertRaises(BadSections, board_of, program, {0: section})

    def test_rows_of_boards_are_those_of_programs(self):
        shown = 0
        for seed in range(150):
            program = draw_program(seed, True, 30)
            try:
                board = board_of(program)
            except TooLarge:
                continue
            run = Run(program, seed)
            run.go(3000)
            row = machine_row(board, seed, 10 ** 4)
            if run.fault is None:
                shorter = min(len(row), len(run.row))
                self.assertEqual(row[:shorter], run.row[:shorter])
                if run.state != "running":
                    # [39]: at most 100 steps of the machine for each one of the rooms, and 100 more each time.
                    self.assertEqual(machine_row(board, seed, 100 * run.steps + 100 * len(run.row)), run.row)
            else:
                self.assertEqual(row[:len(run.row)], run.row)
            shown += len(run.row)
        self.assertGreater(shown, 400)


if __name__ == "__main__":
    unittest.main()
