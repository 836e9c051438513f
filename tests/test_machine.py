"""Points [32] to [35]: the machine, its instructions, what sections do by themselves."""

import copy
import random
import unittest

from drawnsections import draw_board
from odd import odd_values
from ownharm.errors import BadAddress, BadBoard, BadEvents, BadNumber, BadRoomNumber, BadSteps
from ownharm.machine import Machine, handed, machine_row, section_acts
from plainmachine import plain_machine

WRONG_STEPS = [-1, 10 ** 6 + 1, True, False, None, "1", (1,), [1], {}, 10 ** 99]
EXAMPLE = (1, (((1, 0),), ()), (((1100, 1, 9120, 9005), (0,)), ((4000, 9005), (0,))))
ZEROS = (0,) * 10


def one_room(*cells, entries=(0,)):
    return (1, ((),), ((cells, entries),))


def two_rooms(one, other, depth=1, wires=((1, 0),)):
    return (depth, (wires, ((0, 0),)), ((tuple(one), (0,)), (tuple(other), (0,))))


def drawn_machines(many):
    for seed in range(many):
        rng = random.Random(seed)
        yield seed, rng, draw_board(rng), rng.choice([0, 1, 5, 9999, rng.randrange(10000)])


class StartTest(unittest.TestCase):
    def test_start(self):
        board = (3, (((1, 1),), ()), (((5,), (7,)), ((1, 2), (0, 9))))
        machine = Machine(number=42, board=board)
        self.assertEqual((machine.row, machine.steps, machine.state, machine.at), ([("start", 42)], 0, "running", (0, 7)))
        self.assertEqual((machine.registers, machine.open_asks), ((42,) + (0,) * 9, []))
        self.assertEqual((machine.cells(0), machine.cells(room=1)), ((5,), (1, 2)))
        self.assertEqual(machine.moment(), ((0, 7), (42,) + (0,) * 9, (), ((5,), (1, 2))))
        self.assertIsInstance(machine.row, list)
        self.assertIsInstance(machine.open_asks, list)
        self.assertIsNone(machine.go(0))
        self.assertEqual(machine.steps, 0)

    def test_errors_in_their_order(self):
        board = one_room(0)
        for value in odd_values():
            self.assertRaises(BadBoard, Machine, value, -1)
            self.assertRaises(BadBoard, machine_row, value, -1, -1)
            self.assertRaises(BadBoard, handed, value, -1, -1)
            self.assertRaises(BadBoard, section_acts, value, -1, None, -1)
            if not (type(value) is int and 0 <= value <= 9999):
                self.assertRaises(BadNumber, Machine, board, value)
                self.assertRaises(BadNumber, machine_row, board, value, -1)
                self.assertRaises(BadNumber, handed, board, value, -1)
        machine = Machine(board, 0)
        for steps in WRONG_STEPS:
            self.assertRaises(BadSteps, machine.go, steps)
            self.assertRaises(BadSteps, machine_row, board, 0, steps)
            self.assertRaises(BadSteps, handed, board, 0, steps)
        self.assertEqual((machine.steps, machine.state), (0, "running"))
        for room in [-1, 1, True, False, None, "0", (0,), [0], {}, 10 ** 99]:
            self.assertRaises(BadRoomNumber, machine.cells, room)
            self.assertRaises(BadRoomNumber, machine.put, room, -1, -1)
            self.assertRaises(BadRoomNumber, section_acts, board, room, None, -1)
        for address in [-1, 1, True, False, None, "0", (0,), [0], {}, 10 ** 99]:
            self.assertRaises(BadAddress, machine.put, 0, address, -1)
        for number in [-1, 10000, True, False, None, "0", (0,), [0], {}, 10 ** 99]:
            self.assertRaises(BadNumber, machine.put, 0, 0, number)
        self.assertEqual(machine.cells(0), (0,))

    def test_no_other_kind_and_no_iteration(self):
        machine = Machine(EXAMPLE, 3)
        for value in odd_values():
            self.assertFalse(machine == value)
            self.assertTrue(machine != value)
        with self.assertRaises(TypeError):
            iter(machine)


class InstructionsTest(unittest.TestCase):
    """Each instruction by itself; registers are set by the cells ahead."""

    def behind(self, cells, steps, number=0):
        machine = Machine(one_room(*cells), number)
        machine.go(steps)
        self.assertEqual(machine.steps, steps)
        return machine

    def test_set(self):
        machine = self.behind([1700, 0], 1)
        self.assertEqual((machine.at, machine.registers), ((0, 2), ZEROS))
        machine = self.behind([1799, 9999, 0], 1)
        self.assertEqual((machine.at, machine.registers), ((0, 2), (0,) * 7 + (9999, 0, 0)))
        machine = self.behind([1000], 1, 7)
        self.assertEqual((machine.at, machine.state, machine.row), (None, "end", [("start", 7), ("end", 0)]))
        self.assertEqual(machine.registers, (7,) + (0,) * 9)

    def test_get_and_put(self):
        machine = self.behind([1200, 4, 2324, 0, 77], 2)
        self.assertEqual((machine.at, machine.registers), ((0, 3), (0, 0, 4, 77) + (0,) * 6))
        machine = self.behind([1200, 4, 2025, 0, 77], 2, 55)
        self.assertEqual((machine.at, machine.registers[2], machine.cells(0)), ((0, 3), 4, (1200, 4, 2025, 0, 55)))
        for word in [2324, 2329, 2320, 2325]:
            machine = self.behind([1200, 3, word], 2)
            self.assertEqual((machine.state, machine.at, machine.cells(0)), ("end", None, (1200, 3, word)))
            self.assertEqual(machine.registers, (0, 0, 3) + (0,) * 7)
        machine = self.behind([2005], 1, 9999)
        self.assertEqual((machine.state, machine.cells(0)), ("end", (2005,)))
        machine = self.behind([2000], 1, 0)
        self.assertEqual((machine.state, machine.registers), ("running", (2000,) + (0,) * 9))

    def test_arithmetic(self):
        for one, other in [(7, 5), (5, 7), (9999, 9999), (0, 3), (3, 0), (0, 0), (100, 100), (9999, 2)]:
            for word, worth in [(3, one % other if other else 0), (4, (one + other) % 10000), (5, (one - other) % 10000),
                                (6, one * other % 10000), (7, int(one < other))]:
                machine = self.behind([1100, one, 1200, other, word * 1000 + 312], 3)
                self.assertEqual((machine.registers, machine.at), ((0, one, other, worth) + (0,) * 6, (0, 5)))
        machine = self.behind([1900, 6, 6999, 4099], 3, 1)
        self.assertEqual(machine.registers, (72,) + (0,) * 8 + (36,))

    def test_jump(self):
        self.assertEqual(self.behind([1100, 50, 8010], 2, 1).at, (0, 50))
        self.assertEqual(self.behind([1100, 50, 8010], 2, 0).at, (0, 3))
        self.assertEqual(self.behind([8009], 1, 0).at, (0, 1))
        machine = self.behind([8009], 1, 9999)
        self.assertEqual((machine.at, machine.state, machine.row), ((0, 9999), "running", [("start", 9999)]))
        machine.go(1)
        self.assertEqual((machine.at, machine.state, machine.steps), (None, "end", 2))
        machine.go(5)
        self.assertEqual((machine.row, machine.steps), ([("start", 9999), ("end", 0)], 2))

    def test_stop_and_beyond(self):
        for cells, entry in [((0,), 0), ((999,), 0), ((9005,), 1), ((9005,), 9999)]:
            machine = Machine(one_room(*cells, entries=(entry,)), 3)
            machine.go(1)
            self.assertEqual((machine.row, machine.state, machine.at), ([("start", 3), ("end", 0)], "end", None))
            self.assertEqual((machine.steps, machine.registers), (1, (3,) + (0,) * 9))

    def test_give_without_an_open_ask(self):
        for cell in [9005, 9999, 9129]:
            machine = self.behind([cell], 1, 8)
            self.assertEqual((machine.row, machine.state, machine.at), ([("start", 8), ("done", 8)], "done", None))
            self.assertEqual(machine.moment(), (None, (8,) + (0,) * 9, (), ((cell,),)))

    def test_asks(self):
        machine = Machine(EXAMPLE, 3)
        moments = []
        for _ in range(6):
            moments.append((machine.row[-1], machine.steps, machine.at, machine.open_asks, machine.registers[:2]))
            machine.go(1)
        self.assertEqual(moments, [
            (("start", 3), 0, (0, 0), [], (3, 0)), (("start", 3), 1, (0, 2), [], (3, 1)),
            (("call", 0, 1, 0, 3), 2, (1, 0), [(0, 3)], (3, 1)), (("call", 0, 1, 0, 3), 3, (1, 1), [(0, 3)], (6, 1)),
            (("back", 1, 0, 6), 4, (0, 3), [], (6, 1)), (("done", 6), 5, None, [], (6, 1))])

    def test_an_ask_that_is_no_wire(self):
        for wires, registers in [(((1, 0),), (2, 0)), (((1, 0),), (1, 1)), (((1, 0),), (0, 0)), ((), (1, 0)),
                                 (((1, 0),), (9999, 9999))]:
            board = two_rooms([1100, registers[0], 1200, registers[1], 9124], [9005], 1, wires)
            machine = Machine(board, 6)
            machine.go(9)
            self.assertEqual((machine.row, machine.state), ([("start", 6), ("end", 0)], "end"))
            self.assertEqual((machine.steps, machine.at, machine.open_asks), (3, None, []))

    def test_an_ask_at_the_end_of_a_section(self):
        board = two_rooms([1100, 1, 9120], [9005])
        machine = Machine(board, 6)
        machine.go(2)
        self.assertEqual((machine.at, machine.open_asks), ((1, 0), [(0, 3)]))
        machine.go(1)
        self.assertEqual((machine.at, machine.open_asks, machine.state), ((0, 3), [], "running"))
        machine.go(1)
        self.assertEqual((machine.row[-1], machine.at, machine.steps), (("end", 0), None, 4))

    def test_depth(self):
        """Both rooms ask one another for ever: 1100 x sets the room, 9120 asks its door 0."""
        for depth in [1, 2, 3, 59, 60]:
            board = two_rooms([1100, 1, 9120], [1100, 0, 9120], depth)
            machine = Machine(board, 4)
            machine.go(2 * depth)
            self.assertEqual((machine.state, len(machine.row), machine.steps), ("running", 1 + depth, 2 * depth))
            self.assertEqual(len(machine.open_asks), depth)
            asks = machine.open_asks
            machine.go(2)
            last = depth % 2
            self.assertEqual(machine.row[-1], ("deep", last, 1 - last, 0, 4))
            self.assertEqual((machine.state, machine.at, machine.steps), ("deep", None, 2 * depth + 2))
            self.assertEqual(machine.open_asks, asks)
            self.assertEqual(machine.moment()[:3], (None, (4, 1 - last) + (0,) * 8, tuple(asks)))
            machine.go(10)
            self.assertEqual(machine.steps, 2 * depth + 2)

    def test_an_end_leaves_the_open_asks(self):
        machine = Machine(two_rooms([1100, 1, 9120], [0]), 4)
        machine.go(9)
        self.assertEqual((machine.row[-1], machine.open_asks, machine.at), (("end", 1), [(0, 3)], None))

    def test_a_section_that_writes_over_its_own_code(self):
        # r0 counts down from 2; the put exchanges the cell behind it for a give.
        cells = [1100, 9005, 1200, 7, 2125, 4000, 4000, 4000, 4000]
        machine = Machine(one_room(*cells), 2)
        machine.go(20)
        self.assertEqual((machine.row[-1], machine.steps), (("done", 8), 6))
        self.assertEqual(machine.cells(0), (1100, 9005, 1200, 7, 2125, 4000, 4000, 9005, 4000))
        machine = Machine(one_room(1100, 9005, 1200, 5, 2125, 0), 2)
        machine.go(20)
        self.assertEqual(machine.row[-1], ("done", 2))


class MachineTest(unittest.TestCase):
    def told(self, machine, rooms):
        return (machine.row, machine.steps, machine.state, machine.at, machine.registers, machine.open_asks,
                tuple(machine.cells(room) for room in range(rooms)))

    def test_drawn_boards_step_by_step(self):
        states = {}
        for seed, _, board, number in drawn_machines(350):
            moments = plain_machine(board, number, 250)
            machine = Machine(board, number)
            for steps in range(251):
                machine.go(1 if steps else 0)
                moment = moments[min(steps, len(moments) - 1)]
                self.assertEqual(self.told(machine, len(board[2])), moment[:7], (seed, steps))
            self.assertEqual(machine.moment(), (moments[-1][3], moments[-1][4], tuple(moments[-1][5]), moments[-1][6]))
            states[machine.state] = states.get(machine.state, 0) + 1
        self.assertEqual(set(states), {"running", "deep", "done", "end"})
        self.assertGreater(min(states.values()), 10)

    def test_portions(self):
        for seed, rng, board, number in drawn_machines(200):
            whole, parts = Machine(board, number), Machine(board, number)
            whole.go(300)
            left = 300
            while left:
                steps = min(left, rng.choice([0, 1, 2, 7, 50]))
                parts.go(steps)
                left -= steps
            self.assertEqual(self.told(whole, len(board[2])), self.told(parts, len(board[2])), seed)
            self.assertEqual(machine_row(board, number, 300), whole.row)
            self.assertEqual(machine_row(steps=300, board=board, number=number), whole.row)

    def test_a_step_changes_one_cell_of_its_own_section_at_most(self):
        for _, _, board, number in drawn_machines(200):
            machine = Machine(board, number)
            while machine.state == "running" and machine.steps < 100:
                room, ahead = machine.at[0], machine.moment()[3]
                machine.go(1)
                for at, cells in enumerate(machine.moment()[3]):
                    unlike = sum(one != other for one, other in zip(cells, ahead[at]))
                    self.assertLessEqual(unlike, 1 if at == room else 0)
                self.assertLessEqual(len(machine.open_asks), board[0])

    def test_put_in_every_state(self):
        running = Machine(one_room(4000, 9005), 5)
        running.put(0, 0, 6000)
        self.assertEqual((running.cells(0), running.steps, running.row), ((6000, 9005), 0, [("start", 5)]))
        running.go(2)
        self.assertEqual((running.row[-1], running.state), (("done", 25), "done"))
        running.put(room=0, address=1, number=7)
        self.assertEqual((running.cells(0), running.state, running.at, running.steps), ((6000, 7), "done", None, 2))
        running.go(5)
        self.assertEqual(running.steps, 2)
        for board, state in [(two_rooms([1100, 1, 9120], [1100, 0, 9120]), "deep"), (two_rooms([0], [5]), "end")]:
            machine = Machine(board, 5)
            machine.go(20)
            self.assertEqual(machine.state, state)
            ahead = (machine.row, machine.steps, machine.at, machine.registers, machine.open_asks)
            machine.put(1, 0, 9999)
            machine.put(1, 0, 1234)
            self.assertEqual(machine.cells(1)[0], 1234)
            self.assertEqual((machine.row, machine.steps, machine.at, machine.registers, machine.open_asks), ahead)

    def test_put_changes_no_board(self):
        board = copy.deepcopy(EXAMPLE)
        machine = Machine(board, 3)
        machine.put(1, 0, 0)
        self.assertEqual(board, EXAMPLE)
        self.assertEqual(Machine(board, 3).cells(1), (4000, 9005))

    def test_copies_go_on_apart(self):
        for _, rng, board, number in drawn_machines(150):
            machine = Machine(board, number)
            machine.go(rng.randrange(30))
            other = machine.copy()
            rooms = len(board[2])
            self.assertEqual(self.told(machine, rooms), self.told(other, rooms))
            ahead = self.told(machine, rooms)
            alone = Machine(board, number)
            alone.go(machine.steps)
            other.go(40)
            room = rng.randrange(rooms)
            other.put(room, rng.randrange(len(board[2][room][0])), 4321)
            other.go(3)
            self.assertEqual(self.told(machine, rooms), ahead)
            machine.go(25)
            alone.go(25)
            self.assertEqual(self.told(machine, rooms), self.told(alone, rooms))

    def test_copy_of_a_copy_with_cells_put(self):
        machine = Machine(EXAMPLE, 3)
        machine.put(1, 0, 6000)
        machine.go(3)
        first = machine.copy()
        second = first.copy()
        machine.put(1, 1, 0)
        self.assertEqual(first.cells(1), (6000, 9005))
        for one in [first, second]:
            one.go(10)
            self.assertEqual(one.row, [("start", 3), ("call", 0, 1, 0, 3), ("back", 1, 0, 9), ("done", 9)])
        machine.go(10)
        self.assertEqual(machine.row[-1], ("end", 1))

    def test_lists_are_new(self):
        machine = Machine(EXAMPLE, 3)
        machine.go(2)
        machine.row.clear()
        machine.open_asks.clear()
        self.assertEqual((len(machine.row), machine.open_asks), (2, [(0, 3)]))
        row = machine_row(EXAMPLE, 3, 2)
        row.clear()
        found = handed(EXAMPLE, 3, 2)
        found.clear()
        self.assertEqual((len(machine_row(EXAMPLE, 3, 2)), len(handed(EXAMPLE, 3, 2))), (2, 2))


class HandedTest(unittest.TestCase):
    def test_example(self):
        row = [("start", 3), ("call", 0, 1, 0, 3), ("back", 1, 0, 6), ("done", 6)]
        self.assertEqual(machine_row(EXAMPLE, 3, 5), row)
        registers = [(3,) + (0,) * 9, (3, 1) + (0,) * 8, (6, 1) + (0,) * 8, (6, 1) + (0,) * 8]
        self.assertEqual(handed(EXAMPLE, 3, 5), list(zip(row, registers)))
        self.assertEqual(handed(steps=4, board=EXAMPLE, number=3), list(zip(row, registers))[:3])
        self.assertEqual(handed(EXAMPLE, 3, 0), list(zip(row, registers))[:1])
        told = section_acts(EXAMPLE, 1, [("in", 0, (3, 1, 0, 0, 0, 0, 0, 0, 0, 0))], 2)
        self.assertEqual(told, [(("gives", 6), (6, 1, 0, 0, 0, 0, 0, 0, 0, 0))])

    def test_drawn_boards(self):
        for seed, _, board, number in drawn_machines(250):
            for steps in [0, 3, 40, 200]:
                self.assertEqual(handed(board, number, steps), plain_machine(board, number, steps)[-1][7], seed)


def events_and_acts(found, room):
    """The events of a room with their registers, and its acts with theirs, in a list of handed."""
    events, acts = [], []
    for crossing, registers in found:
        word = crossing[0]
        if word == "start" and room == 0:
            events.append(("in", 0, registers))
        elif word in ("call", "deep") and crossing[1] == room:
            acts.append((("calls", *crossing[2:]), registers))
        elif word == "back" and crossing[1] == room:
            acts.append((("gives", crossing[3]), registers))
        elif word == "done" and room == 0:
            acts.append((("gives", crossing[1]), registers))
        elif word == "end" and crossing[1] == room:
            acts.append((("ends",), registers))
        if word == "call" and crossing[2] == room:
            events.append(("in", crossing[3], registers))
        elif word == "back" and crossing[2] == room:
            events.append(("got", registers))
    return events, acts


class SectionActsTest(unittest.TestCase):
    def test_acts_by_itself_are_those_of_the_machine(self):
        many = 0
        for seed, rng, board, number in drawn_machines(500):
            found = handed(board, number, 300)
            for room in range(len(board[2])):
                events, acts = events_and_acts(found, room)
                told = section_acts(board, room, events, 300)
                self.assertEqual(told[:len(acts)], acts, seed)
                self.assertLessEqual(len(acts), len(events))
                many += len(acts)
                first = rng.randint(0, len(events))
                self.assertEqual(section_acts(board, room, tuple(events[:first]), 300), told[:first])
                self.assertEqual(section_acts((60, *board[1:]), room, events, 300), told)
        self.assertGreater(many, 1500)

    def test_whatever_the_other_sections_are(self):
        board = (1, (((1, 0),), ((0, 0),)), (((0,), (0,)), ((4000, 1100, 0, 9120, 9005), (0,))))
        events = [("in", 0, (3,) + (7,) * 9), ("got", tuple(range(10))), ("in", 0, ZEROS)]
        told = section_acts(board, 1, events, 10)
        self.assertEqual(told, [(("ends",), (6, 0) + (7,) * 8)])
        board = (1, (((1, 0),), ((0, 0),)), (((0,), (0,)), ((4000, 1100, 0, 1200, 0, 9120, 9005), (0,))))
        told = section_acts(board, 1, events, 10)
        self.assertEqual(told, [
            (("calls", 0, 0, 6), (6, 0, 0) + (7,) * 7), (("gives", 0), tuple(range(10))), (("calls", 0, 0, 0), ZEROS)])
        other = (1, board[1], (((9005, 1, 2), (1,)), board[2][1]))
        self.assertEqual(section_acts(other, 1, events, 10), told)

    def test_own_open_asks_last_one_first(self):
        cells = [1100, 1, 9120, 4000, 1100, 1, 1200, 0, 9120, 4000, 9005]
        board = two_rooms(cells, [9005])
        one = (1,) + (0,) * 9
        told = section_acts(board, 0, [("in", 0, one), ("in", 0, one), ("got", one), ("got", one), ("got", one), ("got", one)],
                            9)
        self.assertEqual([act for act, _ in told], [
            ("calls", 1, 0, 1), ("calls", 1, 0, 1), ("calls", 1, 0, 2), ("gives", 2), ("calls", 1, 0, 2), ("gives", 2)])

    def test_steps_and_none(self):
        board = two_rooms([1100, 1, 9120, 9005], [9005])
        events = [("in", 0, ZEROS), None, "x"]
        self.assertEqual(section_acts(board, 0, events, 0), [None])
        self.assertEqual(section_acts(board, 0, events, 1), [None])
        self.assertEqual(section_acts(board, 0, events[:1], 2), [(("calls", 1, 0, 0), (0, 1) + (0,) * 8)])
        self.assertEqual(section_acts(board, 0, [("in", 0, ZEROS), ("got", ZEROS), ("in", 0, ZEROS)], 1), [None])
        self.assertEqual(section_acts(board, 0, [], 5), [])
        self.assertEqual(section_acts(steps=5, events=(), room=0, board=board), [])

    def test_it_ends_behind_an_end(self):
        board = one_room(8010, 0, entries=(0, 1))
        self.assertEqual(section_acts(board, 0, [("in", 1, ZEROS), True, ("in", 9, ZEROS)], 5), [(("ends",), ZEROS)])

    def test_cells_written_stay_written(self):
        # Each entry adds one to the cell 9 and gives what stood there.
        cells = (1100, 9, 2210, 1300, 1, 4323, 2315, 4020, 9005, 50)
        board = (1, ((),), ((cells, (0,)),))
        told = section_acts(board, 0, [("in", 0, ZEROS)] * 3, 20)
        self.assertEqual([act for act, _ in told], [("gives", 50), ("gives", 51), ("gives", 52)])
        self.assertEqual(section_acts(board, 0, [("in", 0, ZEROS)], 20)[0][0], ("gives", 50))

    def check_bad(self, board, events, at, steps=20):
        with self.assertRaises(BadEvents) as caught:
            section_acts(board, 0, events, steps)
        self.assertEqual(caught.exception.at, at)

    def test_wrong_events(self):
        board = two_rooms([1100, 1, 9120, 9005], [9005])
        good = ("in", 0, ZEROS)
        wrong = [("got", ZEROS), ("in", 1, ZEROS), ("in", -1, ZEROS), ("in", True, ZEROS), ("in", False, ZEROS),
                 ("in", None, ZEROS), ("in", 0, ZEROS[1:]), ("in", 0, ZEROS + (0,)), ("in", 0, list(ZEROS)), ("in", 0, 0),
                 ("in", 0, ZEROS[1:] + (10000,)), ("in", 0, ZEROS[1:] + (-1,)), ("in", 0, ZEROS[1:] + (True,)), ("in", 0),
                 ("in", 0, ZEROS, 0), ["in", 0, ZEROS], ("In", 0, ZEROS), ("in", 0, (None,) * 10), ("calls", 0, ZEROS),
                 ("in", 0, 5), ("in", 10 ** 99, ZEROS), ((), 0, ZEROS), ("in", "0", ZEROS)]
        for event in wrong + odd_values():
            self.check_bad(board, [event], 0)
            self.check_bad(board, (event, good), 0)
            self.check_bad(board, [good, ("got", ZEROS), event], 2)
        for event in [("got", ZEROS[1:]), ("got", list(ZEROS)), ("got", 0), ("got",), ("got", ZEROS, 0), ["got", ZEROS],
                      ("got", (10 ** 99,) * 10), ("got", 0, ZEROS), ("back", ZEROS), ("got", (True,) * 10)]:
            self.check_bad(board, [good, event], 1)
            self.check_bad(board, [good, good, ("got", ZEROS), event], 3)
        self.check_bad(board, [good, ("got", ZEROS), ("got", ZEROS)], 2)
        self.check_bad(board, [good, good, ("got", ZEROS), ("got", ZEROS), ("got", ZEROS), good], 4)

    def test_errors_in_their_order(self):
        board = two_rooms([1100, 1, 9120, 9005], [9005])
        for value in odd_values():
            if not isinstance(value, (list, tuple)):
                self.check_bad(board, value, None, -1)
        for steps in WRONG_STEPS:
            self.assertRaises(BadSteps, section_acts, board, 0, [None], steps)
            self.assertRaises(BadSteps, section_acts, board, 0, [], steps)


if __name__ == "__main__":
    unittest.main()
