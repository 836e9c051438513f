"""One program looked at by all calls: its answers, how much work they are, and that True is never taken for 1."""

import hashlib
import unittest

from gateyard import FOREIGN, PROGRAM, ROW, STEPS, TEXT, great_tree
from ownharm.alone import first_state, moved, view_alone
from ownharm.bench import Bench
from ownharm.boards import board_of
from ownharm.compiling import compiled, layout, places_of
from ownharm.errors import BadBoard, BadProgram, BadRow, BadTree
from ownharm.explaining import beside, exchanged, explained, is_explained, sound_row
from ownharm.machine import Machine, machine_row
from ownharm.making import made, made_all
from ownharm.meaning import Run
from ownharm.rooms import face_of, is_program, is_room
from ownharm.roomtexts import program_of
from ownharm.rows import is_face, is_row, is_view, view_of
from ownharm.sections import is_board, is_section
from ownharm.viewtrees import is_tree, least_tree, tree_of
from work import entered

TREE = great_tree(90)
ROOMS = (0, 1, 2, 3)
# What the calls have answered from the first time on, in short.
ANSWERS = {
    "face_of": "7ec04ead2fa269a6",
    "first_state": "8a56014d5457c944",
    "moved": "9dd564e5374fb1f1",
    "view_alone": "4dd206c6d66cad2a",
    "run": "8612bd07d8433f48",
    "compiled": "0925f206318c4304",
    "layout": "5240678d41cc7411",
    "places_of": "5964dbb10c91d977",
    "board_of": "092376b9721f0d19",
    "machine_row": "8818c4e6548ec04a",
    "made_all": "14eaa10e9cb6c199",
    "exchanged": "14eaa10e9cb6c199",
    "explained": "db544794cd0296b9",
    "sound_row": "030fdbae8f93d7e6",
    "beside": "739290a994eeac3a",
    "least_tree": "6c1874f6ca8dc2b0",
    "made": "6d8a4b668b8ee554",
    "bench": "5c73ea8fabfec87b",
}
# The most functions that the calls may enter: how long they take hangs on little else. Each of them goes once over
# what it is passed and makes; what is known to be good is not judged again.
WORK = {
    "is_program": 800, "face_of": 800, "first_state": 800, "run": 1000, "compiled": 1200, "board_of": 3000,
    "made_all": 1500, "exchanged": 1500, "explained": 4000, "is_explained": 4000, "sound_row": 4000, "beside": 3000,
    "is_tree": 100, "made": 2000, "bench": 3000, "deeds": 4000, "settle": 9000,
}


def in_short(value):
    return hashlib.sha256(repr(value).encode()).hexdigest()[:16]


def run_told():
    run = Run(PROGRAM, 291)
    run.go(500)
    return [run.row, run.steps, run.state, run.fault, run.control, [run.cells(room) for room in ROOMS]]


def bench_told():
    bench = Bench(PROGRAM, 291)
    bench.go(2000)
    told = [bench.row]
    bench.write(2, 0, 5)
    bench.lay(1, compiled(PROGRAM, 1))
    bench.go(300)
    told.append(bench.row)
    bench.settle()
    told += [bench.row, bench.program, bench.steps, bench.touched, [bench.cells(room) for room in ROOMS]]
    bench.begin(3)
    bench.go(100)
    told.append(bench.row)
    bench.rewrite(1, PROGRAM[1][1])
    bench.go(500)
    return told + [bench.row, bench.blames()]


def answers():
    """By the names of the calls what they answer."""
    events = [("in", 0, 291), ("got", 5), ("got", 0), ("got", 0)]
    return {
        "face_of": face_of(PROGRAM),
        "first_state": [first_state(PROGRAM, room) for room in ROOMS],
        "moved": [moved(PROGRAM, room, first_state(PROGRAM, room), ("in", 0, 5)) for room in ROOMS],
        "view_alone": [view_alone(PROGRAM, room, events) for room in ROOMS],
        "run": run_told(),
        "compiled": [compiled(PROGRAM, room) for room in ROOMS],
        "layout": [layout(PROGRAM, room) for room in ROOMS],
        "places_of": [places_of(PROGRAM, room) for room in ROOMS],
        "board_of": board_of(PROGRAM),
        "machine_row": machine_row(board_of(PROGRAM), 291, 3000),
        "made_all": made_all(PROGRAM, ROW),
        "exchanged": exchanged(PROGRAM, ROW, ROOMS),
        "explained": explained(PROGRAM, ROW, FOREIGN, STEPS),
        "sound_row": sound_row(PROGRAM, ROW, FOREIGN, STEPS),
        "beside": beside([PROGRAM, PROGRAM], [ROW, ROW[:6]], (0, 2, 3)),
        "least_tree": least_tree(TREE),
        "made": made(PROGRAM, 0, TREE),
        "bench": bench_told(),
    }


def some_deeds():
    bench = Bench(PROGRAM, 291)
    bench.go(2000)
    bench.write(2, 0, 5)
    bench.lay(1, ((9005,), (0,)))
    bench.recompile(1)
    bench.begin(3)
    bench.rewrite(1, PROGRAM[1][1])


def some_settling():
    bench = Bench(PROGRAM, 291)
    bench.write(2, 0, 5)
    bench.go(2000)
    bench.settle()


def with_bools(value):
    """The value as often as 0 or 1 stands in it, each time with False or True in the place of one of them."""
    if isinstance(value, (tuple, list)):
        for at, item in enumerate(value):
            for new in with_bools(item):
                yield type(value)([*value[:at], new, *value[at + 1:]])
    elif type(value) is int and value in (0, 1):
        yield bool(value)


class AnswersTest(unittest.TestCase):
    def test_answers_stay(self):
        told = answers()
        self.assertEqual({name: in_short(told[name]) for name in told}, ANSWERS)
        self.assertEqual(told["explained"], [(3, ("d2", 1), 2), (2, ("get", 7), 8), (0, ("go", 32), 9)])
        self.assertTrue(is_explained(PROGRAM, ROW, FOREIGN, told["explained"], STEPS))
        self.assertFalse(is_explained(PROGRAM, ROW, FOREIGN, told["explained"][:2], STEPS))
        self.assertEqual(told["sound_row"], ROW[:2])
        self.assertEqual([len(section[0]) for section in told["board_of"][2]], [249, 304, 585, 389])
        # Nothing hangs on what was called earlier.
        self.assertEqual(answers(), told)
        self.assertEqual(program_of(TEXT), PROGRAM)

    def test_explained_is_the_answer_of_runs_of_exchanged(self):
        rooms, found = FOREIGN, []
        while True:
            run = Run(exchanged(PROGRAM, ROW, rooms), ROW[0][1])
            run.reach(len(ROW), STEPS)
            if run.row == ROW:
                break
            found.append((*run.fault, len(run.row)))
            rooms = tuple(sorted([*rooms, run.fault[0]]))
        self.assertEqual(explained(PROGRAM, ROW, FOREIGN, STEPS), found)

    def test_work(self):
        tasks = {
            "is_program": lambda: is_program(PROGRAM), "face_of": lambda: face_of(PROGRAM),
            "first_state": lambda: first_state(PROGRAM, 0), "run": lambda: Run(PROGRAM, 291),
            "compiled": lambda: compiled(PROGRAM, 0), "board_of": lambda: board_of(PROGRAM),
            "made_all": lambda: made_all(PROGRAM, ROW), "exchanged": lambda: exchanged(PROGRAM, ROW, ROOMS),
            "explained": lambda: explained(PROGRAM, ROW, FOREIGN, STEPS),
            "is_explained": lambda: is_explained(PROGRAM, ROW, FOREIGN, [], STEPS),
            "sound_row": lambda: sound_row(PROGRAM, ROW, FOREIGN, STEPS),
            "beside": lambda: beside([PROGRAM, PROGRAM], [ROW, ROW], ROOMS),
            "is_tree": lambda: is_tree(TREE), "made": lambda: made(PROGRAM, 0, TREE),
            "bench": lambda: Bench(PROGRAM, 291), "deeds": some_deeds, "settle": some_settling,
        }
        self.assertEqual(set(tasks), set(WORK))
        for name, task in tasks.items():
            self.assertLessEqual(entered(task), WORK[name], name)


class BoolTest(unittest.TestCase):
    def none_is_good(self, judge, value, least):
        """The judge lets the value stand, and none of those with a bool in the place of a 0 or a 1."""
        self.assertIs(judge(value), True)
        wrong = list(with_bools(value))
        self.assertGreaterEqual(len(wrong), least)
        for one in wrong:
            self.assertEqual(one, value)
            self.assertIs(judge(one), False)
        # Whatever was asked in between.
        self.assertIs(judge(value), True)

    def test_true_is_not_1(self):
        self.none_is_good(is_program, PROGRAM, 50)
        for room in PROGRAM[1]:
            self.none_is_good(is_room, room, 5)
        self.none_is_good(is_face, face_of(PROGRAM), 10)
        self.none_is_good(is_row, ROW, 8)
        self.none_is_good(is_view, view_of(ROW, 0), 8)
        self.none_is_good(is_tree, tree_of([view_of(ROW, 0), view_of(ROW[:5], 0)]), 8)
        self.none_is_good(is_tree, great_tree(3), 10)
        board = board_of(program_of("depth 1\nroom a\n  uses b.d\n  door d x 9\n    give b.d(x)\nroom b\n  door d x 9"))
        self.none_is_good(is_board, board, 20)
        self.none_is_good(is_section, board[2][0], 10)
        self.none_is_good(lambda value: is_explained(PROGRAM, ROW, FOREIGN, value, STEPS),
                          explained(PROGRAM, ROW, FOREIGN, STEPS), 2)

    def test_all_calls_judge_what_they_are_passed(self):
        wrong = next(with_bools(PROGRAM))
        for call in (
            lambda: face_of(wrong), lambda: first_state(wrong, 0), lambda: moved(wrong, 0, ((), ()), ("in", 0, 0)),
            lambda: view_alone(wrong, 0, []), lambda: Run(wrong, 0), lambda: compiled(wrong, 0), lambda: layout(wrong, 0),
            lambda: places_of(wrong, 0), lambda: board_of(wrong), lambda: made(wrong, 0, TREE),
            lambda: made_all(wrong, ROW), lambda: exchanged(wrong, ROW, ()), lambda: explained(wrong, ROW),
            lambda: sound_row(wrong, ROW), lambda: is_explained(wrong, ROW, (), []), lambda: Bench(wrong, 0),
        ):
            self.assertRaises(BadProgram, call)
        row = next(with_bools(ROW))
        for call in (
            lambda: made_all(PROGRAM, row), lambda: exchanged(PROGRAM, row, ()), lambda: explained(PROGRAM, row),
            lambda: sound_row(PROGRAM, row), lambda: is_explained(PROGRAM, row, (), []), lambda: view_of(row, 0),
        ):
            self.assertRaises(BadRow, call)
        tree = next(with_bools(TREE))
        self.assertRaises(BadTree, made, PROGRAM, 0, tree)
        self.assertRaises(BadTree, least_tree, tree)
        self.assertRaises(BadBoard, Machine, next(with_bools(board_of(PROGRAM))), 0)


if __name__ == "__main__":
    unittest.main()
