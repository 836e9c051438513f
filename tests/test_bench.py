"""Points [79] to [81]: benches."""

import random
import unittest

from benchmodel import Hand
from drawnsections import draw_section
from grown import with_room
from harmful import draw_harmful_program
from odd import odd_values
from ownharm.bench import Bench
from ownharm.boards import board_of
from ownharm.compiling import compiled
from ownharm.errors import (BadAddress, BadMoment, BadName, BadNumber, BadProgram, BadRoom, BadRoomNumber, BadSection,
                            BadSteps, NothingDone, NotKept, NotLaid, OwnharmError, TooLarge, TooLong, TooMany)
from ownharm.explaining import exchanged, explained
from ownharm.machine import Machine, machine_row
from ownharm.meaning import source_row
from ownharm.rooms import face_of
from ownharm.roomtexts import program_of

PROGRAM = program_of("""depth 4
room main
  uses store.get
  door go x 10000
    give store.get(x)
room store
  block b 5
  door get i 10000
    give b[i]
""")
LOUD = ((9005,), (0,))
LARGE = program_of("depth 60\nroom a\n" + "".join(f"  block {name} {'0 ' * 400}\n" for name in "bcdefg") + "  door go x 10\n"
                   + "".join(f"    v{at} = x\n" for at in range(90)))[1][0]


def all_of(bench):
    """All that a bench tells without being led on."""
    rooms = range(len(bench.program[1]))
    return {
        "program": bench.program, "number": bench.number, "laid": bench.laid, "touched": bench.touched, "row": bench.row,
        "state": bench.state, "steps": bench.steps, "kept": bench.kept, "log": bench.log, "len": len(bench),
        "cells": [bench.cells(room) for room in rooms], "rows": [bench.row_at(at) for at in range(len(bench) + 1)],
    }


def all_by_hand(hand):
    return {
        "program": hand.program, "number": hand.number, "laid": hand.laid, "touched": hand.touched(), "row": hand.machine.row,
        "state": hand.machine.state, "steps": hand.machine.steps, "kept": sorted(hand.shelf), "log": hand.log,
        "len": len(hand.log), "cells": [hand.machine.cells(room) for room in range(len(hand.program[1]))], "rows": hand.rows,
    }


def do(bench, deed):
    getattr(bench, deed[0])(*deed[1:])


class DeedDrawer:
    """Draws deeds for a bench, most of them such that can be done."""

    def __init__(self, rng):
        self.rng = rng

    def deed(self, bench):
        rng, program = self.rng, bench.program
        room = rng.randrange(len(program[1]))
        _, wires, doors = face_of(program)
        kind = rng.random()
        if kind < 0.3:
            return ("go", rng.choice([0, 1, 7, 40, 300]))
        if kind < 0.42:
            return ("write", room, rng.randrange(len(bench.cells(room))), rng.choice([0, 9005, rng.randrange(10000)]))
        if kind < 0.52:
            return ("lay", room, draw_section(rng, wires[room], doors[room]))
        if kind < 0.57:
            return ("recompile", room)
        if kind < 0.64:
            drawn = draw_harmful_program(rng, len(program[1]))[1][room]
            other = (program[1][room][0], program[1][room][1], drawn[2], (),
                     tuple((*door[:3], (("give", ("number", rng.randrange(9))),)) for door in program[1][room][4]))
            return ("rewrite", room, rng.choice([other, other, drawn]))
        if kind < 0.7:
            return ("begin", rng.choice([0, 3, 9999]))
        if kind < 0.76:
            return ("settle",)
        if kind < 0.84:
            return ("keep", rng.choice(["a", "b", "m1"]))
        if kind < 0.9:
            return ("back", rng.choice(["a", "b", "m1", "none"]))
        return ("undo",)


class BenchTest(unittest.TestCase):
    def same(self, bench, hand):
        told, other = all_of(bench), all_by_hand(hand)
        for name in told:
            self.assertEqual(told[name], other[name], name)

    def test_at_first(self):
        bench = Bench(PROGRAM, 3)
        self.assertEqual((bench.program, bench.number, bench.laid, bench.touched), (PROGRAM, 3, {}, ()))
        self.assertEqual((bench.row, bench.state, bench.steps, bench.kept, bench.log, len(bench)), ([("start", 3)], "running", 0, [], [], 0))
        self.assertEqual([bench.cells(room) for room in range(2)], [compiled(PROGRAM, room)[0] for room in range(2)])
        self.assertEqual(bench.row_at(0), [("start", 3)])
        self.assertEqual(bench.blames(), [])

    def test_deeds_return_nothing(self):
        bench = Bench(PROGRAM, 0)
        for deed in [("go", 5), ("write", 1, 0, 5), ("lay", 1, LOUD), ("recompile", 1), ("rewrite", 1, PROGRAM[1][1]), ("begin", 4),
                     ("settle",), ("keep", "k"), ("back", "k"), ("undo",)]:
            self.assertIsNone(getattr(bench, deed[0])(*deed[1:]))
        self.assertEqual(len(bench), 8)

    def test_drawn_deeds_beside_a_machine_led_by_hand(self):
        done = raised = 0
        for seed in range(45):
            rng = random.Random(seed)
            program = draw_harmful_program(rng)
            drawer = DeedDrawer(rng)
            try:
                bench, hand = Bench(program, 3), Hand(program, 3)
            except TooLarge:
                continue
            for _ in range(25):
                deed = drawer.deed(bench)
                try:
                    hand.do(deed)
                except OwnharmError as error:
                    ahead = all_of(bench)
                    with self.assertRaises(type(error)) as caught:
                        do(bench, deed)
                    self.assertEqual(vars(caught.exception), vars(error))
                    self.assertEqual(all_of(bench), ahead)
                    raised += 1
                else:
                    do(bench, deed)
                    done += 1
                self.same(bench, hand)
                try:
                    blames = hand.blames()
                except (TooLong, TooMany) as error:
                    with self.assertRaises(type(error)):
                        bench.blames()
                else:
                    self.assertEqual(bench.blames(), blames)
        self.assertGreater(done, 600)
        self.assertGreater(raised, 60)

    def test_undo_of_everything_from_any_moment(self):
        for seed in range(12):
            rng = random.Random(seed + 100)
            drawer = DeedDrawer(rng)
            try:
                bench = Bench(draw_harmful_program(rng), 3)
            except TooLarge:
                continue
            moments = [all_of(bench)]
            for _ in range(60):
                deed = drawer.deed(bench)
                if deed[0] == "undo" and rng.random() < 0.5:
                    continue
                try:
                    do(bench, deed)
                except OwnharmError:
                    self.assertEqual(all_of(bench), moments[-1])
                    continue
                if deed[0] == "undo":
                    moments.pop()
                else:
                    moments.append(all_of(bench))
                self.assertEqual(all_of(bench), moments[-1])
            while len(moments) > 1:
                moments.pop()
                bench.undo()
                self.assertEqual(all_of(bench), moments[-1])
            with self.assertRaises(NothingDone):
                bench.undo()

    def test_log_says_it_all(self):
        for seed in range(15):
            rng = random.Random(seed + 200)
            drawer = DeedDrawer(rng)
            program = draw_harmful_program(rng)
            try:
                bench = Bench(program, 9)
            except TooLarge:
                continue
            for _ in range(25):
                try:
                    do(bench, drawer.deed(bench))
                except OwnharmError:
                    pass
            fresh = Bench(program, 9)
            self.assertEqual(bench.row_at(0), fresh.row)
            for at, deed in enumerate(bench.log):
                do(fresh, deed)
                self.assertEqual(bench.row_at(at + 1), fresh.row)
            self.assertTrue(fresh == bench)
            self.assertEqual(all_of(fresh), all_of(bench))


class DeedsTest(unittest.TestCase):
    def test_go(self):
        bench = Bench(PROGRAM, 3)
        machine = Machine(board_of(PROGRAM), 3)
        for steps in (0, 5, 10 ** 6, 4):
            bench.go(steps)
            machine.go(steps)
            self.assertEqual((bench.row, bench.steps, bench.state), (machine.row, machine.steps, machine.state))
        # Deeds that change nothing stand in log, too.
        self.assertEqual(bench.log, [("go", 0), ("go", 5), ("go", 10 ** 6), ("go", 4)])

    def test_write(self):
        bench = Bench(PROGRAM, 0)
        cells = bench.cells(1)
        bench.write(1, 2, cells[2])
        # Touched, though the cell holds what it did.
        self.assertEqual((bench.touched, bench.cells(1), bench.laid), ((1,), cells, {}))
        bench.write(0, 1, 9999)
        bench.write(1, 0, 7)
        self.assertEqual(bench.touched, (0, 1))
        self.assertEqual((bench.cells(0)[1], bench.cells(1)[0]), (9999, 7))
        bench.begin(0)
        self.assertEqual((bench.touched, bench.cells(1)), ((), cells))

    def test_just_the_cells_of_the_section(self):
        bench = Bench(PROGRAM, 0)
        bench.lay(1, ((1, 2, 3), (7,)))
        for room in (0, 1):
            many = len(bench.cells(room))
            bench.write(room, many - 1, 4321)
            self.assertEqual(bench.cells(room)[many - 1], 4321)
            for address in (many, many + 1, -1, 4000):
                with self.assertRaises(BadAddress):
                    bench.write(room, address, 0)
        self.assertEqual(len(bench), 3)

    def test_write_behind_the_end(self):
        bench = Bench(PROGRAM, 0)
        bench.go(1000)
        self.assertEqual(bench.state, "done")
        bench.write(0, 0, 1234)
        self.assertEqual((bench.cells(0)[0], bench.touched, bench.state), (1234, (0,), "done"))

    def test_lay_and_recompile(self):
        bench = Bench(PROGRAM, 3)
        bench.write(0, 0, 5)
        bench.go(9)
        bench.lay(1, LOUD)
        self.assertEqual((bench.laid, bench.touched, bench.steps, bench.row, bench.cells(1)), ({1: LOUD}, (1,), 0, [("start", 3)], (9005,)))
        bench.go(1000)
        self.assertEqual(bench.row, [("start", 3), ("call", 0, 1, 0, 3), ("back", 1, 0, 3), ("done", 3)])
        self.assertEqual(bench.blames(), [])
        other = ((1000, 77, 9005), (0,))
        bench.lay(1, other)
        bench.go(1000)
        self.assertEqual((bench.row[-1], bench.laid), (("done", 77), {1: other}))
        bench.begin(8)
        self.assertEqual((bench.laid, bench.number, bench.row), ({1: other}, 8, [("start", 8)]))
        bench.recompile(1)
        self.assertEqual((bench.laid, bench.touched, bench.cells(1)), ({}, (), compiled(PROGRAM, 1)[0]))
        with self.assertRaises(NotLaid) as caught:
            bench.recompile(1)
        self.assertEqual(caught.exception.room, 1)

    def test_rewrite(self):
        bench = Bench(PROGRAM, 3)
        bench.lay(0, LOUD)
        bench.lay(1, LOUD)
        new = program_of("depth 1\nroom store\n  door get i 5\n    give (i + 1)")[1][0]
        bench.rewrite(1, new)
        self.assertEqual((bench.program, bench.laid, bench.touched), (with_room(PROGRAM, 1, new), {0: LOUD}, (0,)))
        bench.recompile(0)
        bench.go(1000)
        self.assertEqual(bench.row, source_row(bench.program, 3, 1000))
        self.assertEqual(bench.row[-1], ("done", 4))
        # The program's first one is another now, and back again.
        bench.undo()
        bench.undo()
        bench.undo()
        self.assertEqual((bench.program, bench.laid), (PROGRAM, {0: LOUD, 1: LOUD}))

    def test_rewrite_with_the_doors_in_another_order(self):
        # The others ask the same doors by other numbers then: their sections are others, too.
        program = program_of("""depth 3
room main
  uses store.get store.put
  block b 7
  door go x 10
    b[0] = (store.put(x) + b[0])
    give (store.get(b[0]) * 2)
room store
  uses main.go
  door get i 100
    give (i + 1)
  door put i 100
    give (i + 50)
room third
  uses main.go
  door d x 9
""")
        name, imports, blocks, functions, doors = program[1][1]
        turned = (name, imports, blocks, functions, doors[::-1])
        for laid in ({}, {0: LOUD}, {2: LOUD}, {0: LOUD, 2: LOUD}):
            bench = Bench(program, 3)
            for room, section in laid.items():
                bench.lay(room, section)
            bench.rewrite(1, turned)
            self.assertEqual((bench.program, bench.laid), (with_room(program, 1, turned), laid))
            for room in (0, 1, 2):
                self.assertEqual(bench.cells(room), board_of(bench.program, laid)[2][room][0])
            for room in laid:
                bench.recompile(room)
            for room in (0, 1, 2):
                self.assertEqual(bench.cells(room), compiled(bench.program, room)[0])
            bench.go(1000)
            self.assertEqual(bench.row, source_row(bench.program, 3, 1000))
            self.assertEqual(bench.row[-1], ("done", 122))
            bench.rewrite(1, program[1][1])
            self.assertEqual([bench.cells(room) for room in (0, 1, 2)], [compiled(program, room)[0] for room in (0, 1, 2)])
            bench.undo()
            self.assertEqual(bench.row[-1], ("done", 122))

    def test_rewrite_that_is_no_program(self):
        bench = Bench(PROGRAM, 3)
        for text, error in [("room main\n  door get i 5", BadProgram), ("room store\n  door put i 5", BadProgram), ("room other\n  door get i 5", BadProgram)]:
            with self.assertRaises(error):
                bench.rewrite(1, program_of("depth 1\n" + text)[1][0])
        with self.assertRaises(BadProgram):
            bench.rewrite(1, program_of("depth 1\nroom store\n  uses k.d\n  door get i 5\nroom k\n  door d x 1")[1][0])
        self.assertEqual((len(bench), bench.program), (0, PROGRAM))

    def test_too_large(self):
        program = (60, (LARGE,))
        with self.assertRaises(TooLarge) as caught:
            Bench(program, 3)
        self.assertEqual(caught.exception.room, 0)
        with self.assertRaises(BadNumber):
            Bench(program, 10000)
        large = (LARGE[0], LARGE[1], LARGE[2], LARGE[3], (("get", *LARGE[4][0][1:]),))
        bench = Bench((60, PROGRAM[1]), 3)
        for room in (0, 1):
            source = ("store", *large[1:]) if room else ("main", *LARGE[1:])
            with self.assertRaises(TooLarge) as caught:
                bench.rewrite(room, source)
            self.assertEqual(caught.exception.room, room)
        self.assertEqual(len(bench), 0)

    def test_settle(self):
        bench = Bench(PROGRAM, 3)
        bench.go(1000)
        row = bench.row
        self.assertEqual([blame[0] for blame in bench.blames()], [1])
        bench.settle()
        self.assertEqual((bench.row, bench.touched, bench.laid, bench.blames()), (row, (), {}, []))
        self.assertEqual(bench.program, exchanged(PROGRAM, row, (1,)))
        self.assertEqual(bench.state, row[-1][0] if row[-1][0] in ("deep", "done", "end") else "running")
        self.assertEqual(machine_row(board_of(bench.program), 3, bench.steps), row)
        self.assertLess(len(machine_row(board_of(bench.program), 3, bench.steps - 1)), len(row))
        # Now it does so again, and beyond.
        bench.begin(3)
        bench.go(10 ** 5)
        self.assertEqual(bench.row[:len(row)], row)

    def test_settle_with_nobody_to_blame(self):
        bench = Bench(PROGRAM, 0)
        bench.go(5)
        bench.settle()
        self.assertEqual((bench.program, bench.row, bench.steps, bench.log), (PROGRAM, [("start", 0)], 0, [("go", 5), ("settle",)]))

    def test_settle_drawn(self):
        settled = 0
        for seed in range(60):
            rng = random.Random(seed + 300)
            drawer = DeedDrawer(rng)
            try:
                bench = Bench(draw_harmful_program(rng), 3)
            except TooLarge:
                continue
            for _ in range(6):
                try:
                    do(bench, drawer.deed(bench))
                except OwnharmError:
                    pass
            bench.go(200)
            row, touched, program = bench.row, bench.touched, bench.program
            try:
                blamed = [blame[0] for blame in bench.blames()]
                bench.settle()
            except (TooMany, TooLong, TooLarge):
                continue
            self.assertEqual((bench.row, bench.touched, bench.laid, bench.blames()), (row, (), {}, []))
            self.assertEqual(bench.program, exchanged(program, row, tuple(sorted([*touched, *blamed]))))
            settled += 1
        self.assertGreater(settled, 40)

    def test_keep_and_back(self):
        bench = Bench(PROGRAM, 3)
        bench.go(4)
        bench.write(1, 0, 9)
        bench.keep("here")
        kept = {name: told for name, told in all_of(bench).items() if name not in ("kept", "log", "len", "rows")}
        bench.begin(7)
        bench.lay(0, LOUD)
        bench.rewrite(1, program_of("depth 1\nroom store\n  door get i 5\n    give 1")[1][0])
        bench.keep("there")
        self.assertEqual(bench.kept, ["here", "there"])
        bench.back("here")
        self.assertEqual({name: told for name, told in all_of(bench).items() if name in kept}, kept)
        self.assertEqual(bench.kept, ["here", "there"])
        bench.go(3)
        bench.back("there")
        self.assertEqual((bench.number, bench.laid, bench.steps), (7, {0: LOUD}, 0))
        # The moment that is kept is as it was, whatever was done behind it.
        bench.back("here")
        self.assertEqual({name: told for name, told in all_of(bench).items() if name in kept}, kept)
        bench.keep("there")
        bench.begin(1)
        bench.back("there")
        self.assertEqual((bench.number, bench.touched, bench.kept), (3, (1,), ["here", "there"]))
        bench.undo()
        bench.undo()
        bench.undo()
        bench.back("there")
        self.assertEqual((bench.number, bench.laid), (7, {0: LOUD}))

    def test_undo_takes_what_is_kept_back(self):
        bench = Bench(PROGRAM, 3)
        bench.keep("m")
        bench.go(5)
        bench.keep("m")
        bench.undo()
        bench.back("m")
        self.assertEqual(bench.steps, 0)
        bench.undo()
        bench.undo()
        bench.undo()
        self.assertEqual((bench.kept, bench.log), ([], []))
        with self.assertRaises(NotKept):
            bench.back("m")

    def test_what_is_written_where_nobody_goes_changes_no_row(self):
        for seed in range(30):
            rng = random.Random(seed + 400)
            program = draw_harmful_program(rng, 4)
            try:
                bench = Bench(program, 3)
            except TooLarge:
                continue
            bench.go(200)
            other = bench.copy()
            bench.go(300)
            entered = {crossing[2] for crossing in bench.row if crossing[0] in ("call", "back")} | {0}
            for room in range(4):
                if room not in entered:
                    for address in range(len(other.cells(room))):
                        if rng.random() < 0.2:
                            other.write(room, address, rng.randrange(10000))
            other.go(300)
            self.assertEqual(other.row, bench.row)

    def test_rows_go_on(self):
        for seed in range(20):
            rng = random.Random(seed + 500)
            drawer = DeedDrawer(rng)
            try:
                bench = Bench(draw_harmful_program(rng), 3)
            except TooLarge:
                continue
            for _ in range(15):
                row, deed = bench.row, drawer.deed(bench)
                try:
                    do(bench, deed)
                except OwnharmError:
                    continue
                if deed[0] in ("go", "write", "keep", "settle"):
                    self.assertEqual(bench.row[:len(row)], row)
                if deed[0] in ("lay", "recompile", "rewrite", "begin"):
                    self.assertEqual((bench.row, bench.steps), ([("start", bench.number)], 0))


class ErrorsTest(unittest.TestCase):
    def refused(self, bench, error, name, *told):
        ahead = all_of(bench)
        with self.assertRaises(error) as caught:
            getattr(bench, name)(*told)
        self.assertEqual(all_of(bench), ahead)
        return caught.exception

    def test_making(self):
        for value in odd_values():
            with self.assertRaises(BadProgram):
                Bench(value, None)
            if not (type(value) is int and 0 <= value < 10000):
                with self.assertRaises(BadNumber):
                    Bench(PROGRAM, value)

    def test_each_parameter(self):
        bench = Bench(PROGRAM, 3)
        bench.lay(1, ((1, 2, 3), (0,)))
        bench.keep("k")
        for value in odd_values() + [2, 4000, ((1, 2), (0, 0)), PROGRAM[1][0]]:
            plain = type(value) is int
            if not (plain and 0 <= value <= 10 ** 6):
                self.refused(bench, BadSteps, "go", value)
                self.refused(bench, BadSteps, "blames", value)
            if not (plain and 0 <= value <= 1):
                for name, more in [("write", (None, None)), ("lay", (None,)), ("recompile", ()), ("rewrite", (None,)), ("cells", ())]:
                    self.refused(bench, BadRoomNumber, name, value, *more)
            if not (plain and 0 <= value <= 2):
                self.refused(bench, BadAddress, "write", 1, value, None)
            if not (plain and 0 <= value <= 9999):
                self.refused(bench, BadNumber, "write", 1, 2, value)
                self.refused(bench, BadNumber, "begin", value)
            self.refused(bench, BadSection, "lay", 1, value)
            if value != PROGRAM[1][0]:
                self.refused(bench, BadRoom, "rewrite", 1, value)
            if not (isinstance(value, str) and value in ("x", "go", "number")):
                self.refused(bench, BadName, "keep", value)
            told = self.refused(bench, NotKept, "back", value)
            self.assertEqual(told.name, value)
            if not (plain and 0 <= value <= 2):
                self.refused(bench, BadMoment, "row_at", value)
        self.refused(bench, BadProgram, "rewrite", 1, PROGRAM[1][0])
        self.assertEqual(self.refused(bench, NotLaid, "recompile", 0).room, 0)
        self.refused(bench, BadSection, "lay", 0, ((), (0,)))
        self.refused(bench, BadSection, "lay", 0, [(1,), (0,)])
        self.refused(bench, BadName, "keep", "if")
        self.refused(bench, NotKept, "back", "k2")

    def test_too_long_and_too_many(self):
        program = program_of("depth 1\nroom a\n  uses b.d\n  door go x 1\n    while 1\n      y = b.d(3)\nroom b\n  door d y 10\n    give y")
        bench = Bench(program, 0)
        bench.go(300)
        self.assertEqual(bench.blames(), [])
        self.refused(bench, TooLong, "blames", 10)
        bench.write(1, 0, bench.cells(1)[0])
        bench.go(60000)
        self.assertGreater(len(bench.row), 802)
        self.refused(bench, TooMany, "blames")
        self.refused(bench, TooMany, "settle")
        slow = Bench(program_of("depth 1\nroom a\n  door go x 10\n    i = 1\n    while i\n      j = 99\n      while j\n        j = (j - 1)\n"
                                "      i = (i + 1)\n    give 7"), 0)
        while slow.state == "running":
            slow.go(10 ** 6)
        self.refused(slow, TooLong, "blames")
        self.refused(slow, TooLong, "settle")
        self.assertEqual(slow.row[-1], ("done", 7))

    def test_a_great_room_at_depth_60_is_settled(self):
        blocks = "".join(f"  block {name} {'0 ' * 400}\n" for name in "bcde")
        program = program_of("depth 60\nroom a\n  uses b.d\n" + blocks + "  door go x 10\n    give b.d(x)\nroom b\n  door d y 10\n    give y")
        bench = Bench(program, 0)
        bench.go(10 ** 4)
        bench.write(0, 0, 0)
        bench.settle()
        self.assertEqual((bench.touched, bench.blames()), ((), []))


class EqualityTest(unittest.TestCase):
    def test_equal(self):
        one, other = Bench(PROGRAM, 3), Bench(PROGRAM, 3)
        self.assertTrue(one == other)
        self.assertFalse(one != other)
        one.go(3)
        self.assertFalse(one == other)
        other.go(3)
        self.assertTrue(one == other)
        other.undo()
        one.undo()
        self.assertTrue(one == other)
        self.assertFalse(Bench(PROGRAM, 4) == Bench(PROGRAM, 3))
        self.assertFalse(Bench((5, PROGRAM[1]), 3) == Bench(PROGRAM, 3))
        # The same deeds, though they did nothing; and the same moment by other deeds.
        one.go(0)
        self.assertFalse(one == other)
        one.begin(4)
        other.begin(4)
        self.assertEqual((one.row, one.program), (other.row, other.program))
        self.assertFalse(one == other)

    def test_no_other_value(self):
        bench = Bench(PROGRAM, 3)
        for value in odd_values() + [bench.log, (PROGRAM, 3), Machine(board_of(PROGRAM), 3)]:
            self.assertFalse(bench == value)
            self.assertTrue(bench != value)
            self.assertFalse(value == bench)
        for task in (iter, list):
            with self.assertRaises(TypeError):
                task(bench)
        with self.assertRaises(TypeError):
            bench[0]

    def test_copies(self):
        bench = Bench(PROGRAM, 3)
        bench.go(4)
        bench.keep("k")
        bench.write(1, 0, 7)
        ahead = all_of(bench)
        other = bench.copy()
        self.assertTrue(other == bench)
        self.assertEqual(all_of(other), ahead)
        other.go(100)
        other.lay(0, LOUD)
        self.assertEqual(all_of(bench), ahead)
        for _ in range(4):
            other.undo()
        self.assertEqual(all_of(bench), ahead)
        bench.undo()
        self.assertEqual(len(other), 1)
        other.undo()
        self.assertEqual(other, Bench(PROGRAM, 3))

    def test_what_is_returned_is_new(self):
        bench = Bench(PROGRAM, 3)
        bench.lay(1, LOUD)
        bench.keep("k")
        bench.go(1000)
        ahead = all_of(bench)
        bench.laid.clear()
        bench.row.clear()
        bench.kept.append("x")
        bench.log.clear()
        bench.row_at(3).clear()
        bench.blames().append(1)
        self.assertEqual(all_of(bench), ahead)
        for name in ("program", "number", "laid", "touched", "row", "state", "steps", "kept", "log"):
            with self.assertRaises(AttributeError):
                setattr(bench, name, None)


class TriedTest(unittest.TestCase):
    def test_a_task_that_is_done(self):
        bench = Bench(PROGRAM, 0)

        def task(told):
            self.assertIs(told, bench)
            told.go(1000)
            return told.row[-1]

        self.assertEqual(bench.tried(task), ("done", 5))
        self.assertEqual(bench.log, [("go", 1000)])
        self.assertIsNone(bench.tried(lambda told: None))

    def test_a_task_that_fails(self):
        class Own(Exception):
            pass

        def task(told):
            told.undo()
            told.undo()
            told.go(7)
            told.lay(0, LOUD)
            told.keep("k")
            told.begin(9)
            raise Own("why")

        for error in (Own, KeyboardInterrupt, NothingDone):
            bench = Bench(PROGRAM, 3)
            bench.go(3)
            bench.write(1, 0, 4)
            bench.keep("m")
            ahead = all_of(bench)

            def failing(told):
                try:
                    task(told)
                except Own:
                    raise error("why")

            with self.assertRaises(error) as caught:
                bench.tried(failing)
            self.assertEqual(caught.exception.args, ("why",))
            self.assertEqual(all_of(bench), ahead)
            bench.undo()
            self.assertEqual(bench.kept, [])

    def test_errors_that_the_task_catches(self):
        bench = Bench(PROGRAM, 3)

        def task(told):
            told.go(2)
            try:
                told.go(-1)
            except BadSteps:
                told.go(1)
            try:
                told.tried(lambda inner: [inner.begin(5), inner.back("none")])
            except NotKept as error:
                return error.name

        self.assertEqual(bench.tried(task), "none")
        self.assertEqual((bench.log, bench.number), ([("go", 2), ("go", 1)], 3))


class BlameTest(unittest.TestCase):
    def test_sections_laid_and_cells_written(self):
        blamed = 0
        for seed in range(60):
            rng = random.Random(seed + 600)
            program = draw_harmful_program(rng)
            try:
                bench = Bench(program, 3)
            except TooLarge:
                continue
            _, wires, doors = face_of(program)
            for _ in range(rng.randint(1, 4)):
                room = rng.randrange(len(doors))
                if rng.random() < 0.3:
                    bench.lay(room, draw_section(rng, wires[room], doors[room]))
                bench.go(rng.choice([5, 60]))
                if rng.random() < 0.5:
                    bench.write(room, rng.randrange(len(bench.cells(room))), rng.choice([0, 9005, rng.randrange(10000)]))
                bench.go(200)
                try:
                    blames = bench.blames()
                except TooMany:
                    continue
                self.assertEqual(blames, explained(program, bench.row, bench.touched))
                self.assertFalse({blame[0] for blame in blames} & set(bench.touched))
                blamed += len(blames)
        self.assertGreater(blamed, 20)


if __name__ == "__main__":
    unittest.main()
