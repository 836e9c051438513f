"""Points [24] to [27]: a room alone, its states, events and acts; rows put together from rooms alone."""

import copy
import unittest

from drawn import draw_program
from odd import odd_values
from ownharm.alone import first_state, moved, view_alone
from ownharm.errors import BadEvent, BadEvents, BadProgram, BadRoomNumber, BadSteps
from ownharm.meaning import Run
from ownharm.roomtexts import program_of

WRONG_STEPS = [-1, 10 ** 6 + 1, True, False, None, "1", (1,), [1], {}, 10 ** 99]

PROGRAM = program_of("""depth 2
room a
  uses b.add c.e
  block n 0 -
  function f p
    y = b.add((p + 1))
    give (y + p)
  door go x 10
    n[0] = (n[0] + 1)
    y = f((x * 2))
    z = c.e(n[0])
    give ((y * z) + x)
  door end x 10000
    if x
      stop
  door bad x 3
    n[x] = 5
    give n[x]
  door long x 10000
    while x
      x = (x - 1)
  door ever x 1
    while 1
room c
  uses a.go
  door d x 5
  door e x 5
    give a.go((x rest 0))
room b
  block n 3
  door add p 10000
    n[0] = (n[0] + p)
    give n[0]
""")


def depth_of_value(value):
    return 1 + max([depth_of_value(one) for one in value] + [0]) if isinstance(value, tuple) else 0


class MovedTest(unittest.TestCase):
    def check_state(self, state):
        """A state is a pair, made as the document tells."""
        self.assertIsInstance(state, tuple)
        self.assertEqual(len(state), 2)
        self.assertLessEqual(depth_of_value(state), 6)
        todo = [state]
        while todo:
            value = todo.pop()
            if isinstance(value, tuple):
                todo.extend(value)
            elif value is not None and not isinstance(value, str):
                self.assertTrue(type(value) is int and 0 <= value <= 9999, value)

    def test_first_state(self):
        self.assertEqual(first_state(PROGRAM, 0), (((0, None),), ()))
        self.assertEqual(first_state(PROGRAM, 1), ((), ()))
        self.assertEqual(first_state(program=PROGRAM, room=2), (((3,),), ()))

    def test_the_example(self):
        state = first_state(PROGRAM, 2)
        self.assertEqual(moved(PROGRAM, 2, state, ("in", 0, 5)), ((((8,),), ()), ("gives", 8)))

    def test_asks_gots_gives(self):
        state, act = moved(PROGRAM, 0, first_state(PROGRAM, 0), ("in", 0, 13))
        self.assertEqual(act, ("calls", 2, 0, 7))
        self.assertEqual((state[0], len(state[1])), (((1, None),), 1))
        self.check_state(state)
        state, act = moved(PROGRAM, 0, state, ("got", 100))
        self.assertEqual(act, ("calls", 1, 1, 1))
        self.assertEqual((state[0], len(state[1])), (((1, None),), 1))
        self.check_state(state)
        state, act = moved(PROGRAM, 0, state, ("got", 2))
        self.assertEqual((state, act), ((((1, None),), ()), ("gives", 215)))

    def test_last_one_waits_goes_on(self):
        state = first_state(PROGRAM, 0)
        for number in [1, 2, 3]:
            state, act = moved(PROGRAM, 0, state, ("in", 0, number))
            self.assertEqual(act, ("calls", 2, 0, number * 2 + 1))
            self.check_state(state)
        self.assertEqual((state[0], len(state[1])), (((3, None),), 3))
        for number in [3, 2, 1]:
            state, act = moved(PROGRAM, 0, state, ("got", 10))
            self.assertEqual(act, ("calls", 1, 1, 3))
            state, act = moved(PROGRAM, 0, state, ("got", 1))
            self.assertEqual(act, ("gives", 10 + number * 3))
            self.assertEqual(len(state[1]), number - 1)
        self.assertRaises(BadEvent, moved, PROGRAM, 0, state, ("got", 1))

    def test_ends_undefined_and_silence(self):
        state = first_state(PROGRAM, 0)
        self.assertEqual(moved(PROGRAM, 0, state, ("in", 1, 1)), (None, ("ends",)))
        self.assertEqual(moved(PROGRAM, 0, state, ("in", 1, 0)), (state, ("gives", 0)))
        self.assertEqual(moved(PROGRAM, 0, state, ("in", 2, 2)), (None, ("undefined", "bad", 0)))
        self.assertEqual(moved(PROGRAM, 0, state, ("in", 2, 1)), ((((0, 5),), ()), ("gives", 5)))
        self.assertEqual(moved(PROGRAM, 0, state, ("in", 4, 0)), (None, None))
        self.assertEqual(moved(PROGRAM, 0, state, ("in", 4, 0), 10 ** 5), (None, None))
        self.assertEqual(moved(PROGRAM, 1, first_state(PROGRAM, 1), ("in", 1, 4)), (None, ("undefined", "e", 2)))

    def test_steps(self):
        state = first_state(PROGRAM, 0)
        for event, least, act in [(("in", 1, 1), 3, ("ends",)), (("in", 1, 0), 3, ("gives", 0)),
                                  (("in", 2, 2), 3, ("undefined", "bad", 0)), (("in", 2, 1), 6, ("gives", 5)),
                                  (("in", 0, 1), 14, ("calls", 2, 0, 3)), (("in", 3, 5), 5 * 6 + 3, ("gives", 0))]:
            for steps in range(least + 3):
                told = moved(PROGRAM, 0, state, event, steps)
                self.assertEqual(told[1], act if steps >= least else None, (event, steps))
                if steps < least:
                    self.assertEqual(told, (None, None))
        self.assertEqual(moved(PROGRAM, 0, state, ("in", 3, 332), steps=2000)[1], ("gives", 0))
        self.assertEqual(moved(PROGRAM, 0, state, ("in", 3, 332))[1], ("gives", 0))
        self.assertEqual(moved(PROGRAM, 0, state, ("in", 3, 333)), (None, None))
        self.assertEqual(moved(PROGRAM, 0, state, ("in", 3, 333), 2001)[1], ("gives", 0))
        self.assertEqual(moved(PROGRAM, 0, state, ("in", 3, 333), 10 ** 6)[1], ("gives", 0))

    def test_errors_in_their_order(self):
        state = first_state(PROGRAM, 1)
        waiting = moved(PROGRAM, 0, first_state(PROGRAM, 0), ("in", 0, 1))[0]
        for value in odd_values():
            self.assertRaises(BadProgram, first_state, value, -1)
            self.assertRaises(BadProgram, moved, value, -1, None, None, -1)
            if not (type(value) is int and 0 <= value <= 2):
                self.assertRaises(BadRoomNumber, first_state, PROGRAM, value)
                self.assertRaises(BadRoomNumber, moved, PROGRAM, value, None, None, -1)
            if value != ("in", 0, 3):
                self.assertRaises(BadEvent, moved, PROGRAM, 1, state, value, -1)
            if value not in [("in", 0, 3), ("got", 3)]:
                self.assertRaises(BadEvent, moved, PROGRAM, 0, waiting, value, -1)
        wrong = [("in", 2, 0), ("in", -1, 0), ("in", True, 0), ("in", 0, 10000), ("in", 0, -1), ("in", 0, True), ("in", 0),
                 ("in", 0, 0, 0), ("In", 0, 0), ("got", 0), ["in", 0, 0], ("calls", 0, 0), (["in"], 0, 0), (None, 0, 0),
                 ("in", "add", 0), ("in", 0, None), ("gives", 0), ("ends",), ("in", 10 ** 99, 0)]
        for event in wrong:
            self.assertRaises(BadEvent, moved, PROGRAM, 1, state, event)
            self.assertRaises(BadEvent, moved, PROGRAM, 1, state, event, -1)
        for event in [("got", 10000), ("got", True), ("got", None), ("got",), ("got", 0, 0), ["got", 0], ("Got", 0)]:
            self.assertRaises(BadEvent, moved, PROGRAM, 0, waiting, event, -1)
        for steps in WRONG_STEPS:
            self.assertRaises(BadSteps, moved, PROGRAM, 0, waiting, ("got", 0), steps)
        self.assertEqual(moved(PROGRAM, 1, state, ("in", 0, 0), 0), (None, None))


class ViewAloneTest(unittest.TestCase):
    def test_by_turns(self):
        events = [("in", 0, 13), ("got", 100), ("got", 2), ("in", 1, 0)]
        view = [("in", 0, 13), ("calls", 2, 0, 7), ("got", 100), ("calls", 1, 1, 1), ("got", 2), ("gives", 215),
                ("in", 1, 0), ("gives", 0)]
        for many in range(5):
            self.assertEqual(view_alone(PROGRAM, 0, events[:many]), view[:2 * many])
            self.assertEqual(view_alone(PROGRAM, 0, tuple(events[:many])), view[:2 * many])
        self.assertEqual(view_alone(steps=2000, events=events, room=0, program=PROGRAM), view)
        self.assertEqual(len(events), 4)

    def test_where_it_ends(self):
        ahead = [("in", 0, 13), ("calls", 2, 0, 7)]
        for rest in [[], [None], [("in", 9, 9)], ["x", True], [("in", 0, 1)]]:
            self.assertEqual(view_alone(PROGRAM, 0, [("in", 0, 13), ("in", 1, 5)] + rest),
                             ahead + [("in", 1, 5), ("ends",)])
            self.assertEqual(view_alone(PROGRAM, 0, [("in", 0, 13), ("in", 2, 2)] + rest),
                             ahead + [("in", 2, 2), ("undefined", "bad", 0)])
            self.assertEqual(view_alone(PROGRAM, 0, [("in", 0, 13), ("in", 4, 0)] + rest), ahead + [("in", 4, 0)])
            self.assertEqual(view_alone(PROGRAM, 0, [("in", 0, 13)] + rest, 13), [("in", 0, 13)])
            self.assertEqual(view_alone(PROGRAM, 0, [("in", 0, 13)] + rest, 0), [("in", 0, 13)])
        self.assertEqual(view_alone(PROGRAM, 0, [("in", 0, 13)], 14), ahead)

    def test_errors_in_their_order(self):
        for value in odd_values():
            self.assertRaises(BadProgram, view_alone, value, -1, None, -1)
            if not (type(value) is int and 0 <= value <= 2):
                self.assertRaises(BadRoomNumber, view_alone, PROGRAM, value, None, -1)
            if not isinstance(value, (list, tuple)):
                with self.assertRaises(BadEvents) as caught:
                    view_alone(PROGRAM, 0, value, -1)
                self.assertIsNone(caught.exception.at)
            elif value:
                for events, at in [([value], 0), ([("in", 1, 0), ("in", 0, 1), value], 2)]:
                    if value not in [("in", 0, 3), ("got", 3)]:
                        with self.assertRaises(BadEvents) as caught:
                            view_alone(PROGRAM, 0, events)
                        self.assertEqual(caught.exception.at, at)
        for steps in WRONG_STEPS:
            self.assertRaises(BadSteps, view_alone, PROGRAM, 0, [None], steps)
            self.assertRaises(BadSteps, view_alone, PROGRAM, 0, [], steps)
        for events, at in [([("got", 0)], 0), ([("in", 1, 0), ("got", 1)], 1), ([("in", 0, 0), ("got", 1), ("in", 5, 0)], 2),
                           (("in", 0, 3), 0), ([("in", 0, 1), ("got", 1), ("got", 1), ("got", 1)], 3)]:
            with self.assertRaises(BadEvents) as caught:
                view_alone(PROGRAM, 0, events)
            self.assertEqual(caught.exception.at, at)

    def test_nothing_is_changed_and_lists_are_new(self):
        events = [("in", 0, 13), ("got", 100)]
        kept = copy.deepcopy(events)
        view = view_alone(PROGRAM, 0, events)
        view.clear()
        self.assertEqual(events, kept)
        self.assertEqual(len(view_alone(PROGRAM, 0, events)), 4)


def told_by_row(row, rooms):
    """The views of the rooms in a row, and the pairs (room in control, events ahead, act) of it."""
    views = [[] for _ in range(rooms)]
    for crossing in row:
        word = crossing[0]
        if word == "start":
            views[0].append(("in", 0, crossing[1]))
        elif word in ("call", "deep"):
            views[crossing[1]].append(("calls",) + crossing[2:])
            if word == "call":
                views[crossing[2]].append(("in",) + crossing[3:])
        elif word == "back":
            views[crossing[1]].append(("gives", crossing[3]))
            views[crossing[2]].append(("got", crossing[3]))
        elif word == "done":
            views[0].append(("gives", crossing[1]))
        else:
            views[crossing[1]].append(("ends",))
    return views


def row_from_rooms(program, number, most):
    """The row of a run, put together from the rooms alone, with the steps of each act; and the fault."""
    depth, rooms = program
    states = [first_state(program, room) for room in range(len(rooms))]
    row, askers, control, event, done = [("start", number)], [], 0, ("in", 0, number), 0
    marks = [0]
    while True:
        state, act = moved(program, control, states[control], event, most)
        if act is None:
            return row, marks, None
        least = next(steps for steps in range(most + 1)
                     if moved(program, control, states[control], event, steps)[1] is not None)
        done += least
        if act[0] == "undefined":
            return row, marks, (control, act[1:], done - 1)
        marks.append(done)
        if act[0] == "ends":
            return row + [("end", control)], marks, None
        states[control] = state
        if act[0] == "calls":
            if len(askers) == depth:
                return row + [("deep", control) + act[1:]], marks, None
            askers.append(control)
            row.append(("call", control) + act[1:])
            control, event = act[1], ("in",) + act[2:]
        elif not askers:
            return row + [("done", act[1])], marks, None
        else:
            asker = askers.pop()
            row.append(("back", control, asker, act[1]))
            control, event = asker, ("got", act[1])
        if len(row) > 40:
            return row, marks, None


class FactsTest(unittest.TestCase):
    def test_rows_are_put_together_from_the_rooms_alone(self):
        for seed in range(150):
            program = draw_program(seed, seed % 3 > 0)
            row, marks, fault = row_from_rooms(program, seed, 150)
            for crossings, steps in enumerate(marks):
                run = Run(program, seed)
                run.go(steps)
                self.assertEqual(run.row, row[:crossings + 1])
                if steps:
                    run = Run(program, seed)
                    run.go(steps - 1)
                    self.assertEqual(run.row, row[:crossings])
            if fault is not None:
                run = Run(program, seed)
                run.go(fault[2] + 1)
                self.assertEqual((run.fault, run.steps), ((fault[0], fault[1]), fault[2]))

    def test_a_room_alone_does_what_its_view_tells(self):
        for seed in range(300):
            program = draw_program(seed, seed % 3 > 0)
            run = Run(program, seed)
            run.go(2000)
            for room, view in enumerate(told_by_row(run.row[:200], len(program[1]))):
                events = [item for item in view if item[0] in ("in", "got")]
                alone = view_alone(program, room, events)
                self.assertEqual(alone[:len(view)], view)
                if run.fault is not None and run.fault[0] == room and len(run.row) <= 200:
                    self.assertEqual(alone[len(view):], [("undefined",) + run.fault[1]])

    def test_states_without_the_elder_waits(self):
        events = [("in", 0, 3), ("got", 7), ("got", 2), ("in", 1, 0), ("in", 2, 1), ("in", 3, 9), ("in", 0, 8), ("got", 1)]
        state = first_state(PROGRAM, 0)
        for event in [("in", 0, 5), ("got", 4), ("in", 0, 6), ("in", 0, 9), ("got", 3)]:
            state = moved(PROGRAM, 0, state, event)[0]
        self.assertEqual(len(state[1]), 3)
        whole, last = state, (state[0], state[1][-1:])
        floor = len(whole[1]) - 1
        for event in events + [("got", 5), ("in", 0, 0), ("got", 2), ("got", 2)]:
            one, other = moved(PROGRAM, 0, whole, event), moved(PROGRAM, 0, last, event)
            self.assertEqual(one[1], other[1])
            self.assertEqual(one[0][0], other[0][0])
            whole, last = one[0], other[0]
            self.assertEqual(whole[1][floor:], last[1])
            if not last[1]:
                break
        none = (state[0], ())
        for event in [("in", door, number) for door in range(5) for number in range(6)]:
            one, other = moved(PROGRAM, 0, state, event), moved(PROGRAM, 0, none, event)
            self.assertEqual(one[1], other[1])
            while one[1] is not None and one[1][0] == "calls":
                self.assertEqual(one[0][0], other[0][0])
                one, other = moved(PROGRAM, 0, one[0], ("got", 3)), moved(PROGRAM, 0, other[0], ("got", 3))
                self.assertEqual(one[1], other[1])

    def test_hangs_on_the_room_and_its_wires_alone(self):
        other = program_of("""depth 9
room x
  uses b.add c.e
  block n 0 -
  function f p
    y = b.add((p + 1))
    give (y + p)
  door go x 10
    n[0] = (n[0] + 1)
    y = f((x * 2))
    z = c.e(n[0])
    give ((y * z) + x)
room c
  door q q 1
    stop
  door e x 5
room b
  door add p 1
""")
        self.assertEqual(other[1][0][1], PROGRAM[1][0][1])
        for program in [PROGRAM, other]:
            view = view_alone(program, 0, [("in", 0, 13), ("got", 100), ("in", 0, 4), ("got", 2), ("got", 3)])
            self.assertEqual(view, [("in", 0, 13), ("calls", 2, 0, 7), ("got", 100), ("calls", 1, 1, 1), ("in", 0, 4),
                                    ("calls", 2, 0, 9), ("got", 2), ("calls", 1, 1, 2), ("got", 3), ("gives", 34)])
        self.assertEqual(moved(PROGRAM, 0, first_state(PROGRAM, 0), ("in", 0, 2)),
                         moved(other, 0, first_state(other, 0), ("in", 0, 2)))


if __name__ == "__main__":
    unittest.main()
