"""Points [52], [53], [57]: rows, faces, rows that fit, other numbers of rooms."""

import random
import unittest

from drawn import draw_program
from drawnrows import draw_face, draw_row, views_in
from drawnsections import draw_board
from odd import odd_values
from ownharm.errors import BadFace, BadOrder, BadRow
from ownharm.machine import machine_row
from ownharm.meaning import source_row
from ownharm.rooms import face_of
from ownharm.rows import control_of, fits, is_face, is_row, open_of, renumbered, renumbered_face, view_of
from ownharm.sections import board_face

ROW = [("start", 4), ("call", 0, 1, 0, 7), ("call", 1, 0, 1, 2)]
FACE = (2, (((1, 0),), ((0, 1),)), (2, 1))
LASTS = [("deep", 0, 5, 5, 0), ("end", 0), ("deep", 0, 1, 0, 9999)]


def told_end(row):
    """The room in control and the open asks behind a row that is one, as the document tells them."""
    control, asks = 0, []
    for crossing in row[1:]:
        if crossing[0] == "call":
            asks.append(crossing[1:3])
            control = crossing[2]
        elif crossing[0] == "back":
            asks.pop()
            control = crossing[2]
        else:
            control = None
    return control, asks


def ladder(many):
    """A row with so many asks open."""
    return [("start", 0)] + [("call", at % 2, 1 - at % 2, 0, at) for at in range(many)]


def drawn_rows(many, most=25):
    for seed in range(many):
        rng = random.Random(seed)
        face = draw_face(rng)
        yield rng, face, draw_row(rng, face, rng.randint(1, most))


class IsRowTest(unittest.TestCase):
    def test_rows(self):
        for row in [ROW, tuple(ROW), ROW[:1], ROW[:2], ROW + [("back", 0, 1, 3)], ROW + LASTS[:1], ROW + LASTS[1:2],
                    [("start", 0), ("done", 9999)], [("start", 9999), ("end", 0)], [("start", 0), ("call", 0, 5, 5, 0)],
                    ROW + [("back", 0, 1, 3), ("back", 1, 0, 3), ("done", 1)], ROW + [("back", 0, 1, 3), ("end", 1)]]:
            self.assertIs(is_row(row), True, row)

    def test_rows_of_programs_and_boards(self):
        for seed in range(120):
            program = draw_program(seed)
            row = source_row(program, seed, 400)
            self.assertTrue(is_row(row))
            self.assertTrue(fits(row, face_of(program)))
            rng = random.Random(seed)
            board = draw_board(rng)
            row = machine_row(board, rng.randrange(10000), 300)
            self.assertTrue(is_row(row))
            self.assertTrue(fits(row, board_face(board)))

    def test_beginnings(self):
        for _, face, row in drawn_rows(100):
            for many in range(len(row) + 1):
                self.assertIs(is_row(row[:many]), many > 0)
                if many:
                    self.assertTrue(fits(row[:many], face))
                    self.assertEqual((control_of(row[:many]), open_of(row[:many])), told_end(row[:many]))

    def test_how_many_asks_are_open(self):
        for many in [59, 60]:
            self.assertTrue(is_row(ladder(many)))
            self.assertEqual(len(open_of(ladder(many))), many)
        self.assertFalse(is_row(ladder(61)))
        self.assertTrue(is_row(ladder(60) + [("deep", 0, 1, 0, 0)]))
        self.assertTrue(is_row(ladder(60) + [("back", 0, 1, 0), ("call", 1, 0, 0, 0)]))
        self.assertFalse(is_row(ladder(60) + [("back", 0, 1, 0), ("call", 1, 0, 0, 0), ("call", 0, 1, 0, 0)]))
        self.assertTrue(is_row(ladder(1) + [("deep", 1, 0, 0, 0)]))
        self.assertFalse(is_row(ladder(0) + [("deep", 0, 1, 0, 0)]))

    def test_no_rows(self):
        wrong = [
            [], (), [("start",)], [("start", -1)], [("start", 10000)], [("start", True)], [("start", None)], [("start", 0, 0)],
            [["start", 0]], ("start", 0), [("call", 0, 1, 0, 7)], [("start", 0), ("start", 0)], [("end", 0)], [("done", 0)],
            ROW + [("start", 1)], [("start", 0), ("end", 1)], [("start", 0), ("end", 0, 0)], [("start", 0), ("end",)],
            [("start", 0), ("done", 0), ("end", 0)], [("start", 0), ("end", 0), ("end", 0)], [("start", 0), ("back", 0, 1, 0)],
            ROW[:2] + [("done", 0)], ROW + [("done", 0)], ROW + [LASTS[0], LASTS[1]], [("start", 0), LASTS[0]], {0: ("start", 0)},
        ]
        for value in odd_values() + wrong:
            self.assertIs(is_row(value), False, value)

    def test_each_item_of_each_crossing_broken(self):
        rows = [ROW + [("back", 0, 1, 3), ("back", 1, 0, 3), ("done", 1)], ROW + LASTS[:1], ROW + [("back", 0, 1, 5), ("end", 1)]]
        for row in rows:
            for spot, crossing in enumerate(row):
                for at in range(1, len(crossing)):
                    for value in [-1, 10000, True, False, None, "0", (0,), [0], {}, 10 ** 99]:
                        self.check_broken(row, spot, crossing[:at] + (value,) + crossing[at + 1:])
                    if at < len(crossing) - 1 or crossing[0] == "end":
                        door = crossing[0] in ("call", "deep") and at == 3
                        for value in range(8):
                            fine = value <= 5 if door else value == crossing[at]
                            if at == 2 and crossing[0] in ("call", "deep"):
                                # Another room is asked: only what comes behind may be wrong then.
                                fine = value <= 5 and value != crossing[1]
                                changed = row[:spot] + [crossing[:at] + (value,) + crossing[at + 1:]]
                            else:
                                changed = row[:spot] + [crossing[:at] + (value,) + crossing[at + 1:]] + row[spot + 1:]
                            self.assertIs(is_row(changed), fine, changed)
                for told in [crossing[:-1], crossing + (0,), list(crossing), ("call",), (), None, 5, crossing[0]]:
                    self.check_broken(row, spot, told)
                for word in ["start", "call", "back", "deep", "done", "end", "Call", "", None, 5, ("call",), ["call"]]:
                    if word != crossing[0] and (word, crossing[0]) != ("deep", "call"):
                        if (word, crossing[0]) != ("call", "deep"):
                            self.check_broken(row, spot, (word,) + crossing[1:])

    def check_broken(self, row, spot, crossing):
        changed = row[:spot] + [crossing] + row[spot + 1:]
        self.assertIs(is_row(changed), False, changed)
        self.assertRaises(BadRow, control_of, changed)

    def test_nothing_behind_a_last_crossing(self):
        for _, _, row in drawn_rows(60):
            if row[-1][0] in ("deep", "done", "end"):
                for crossing in [("end", 0), ("done", 0), ("start", 0)] + row:
                    self.assertFalse(is_row(row + [crossing]))

    def test_crossings_put_elsewhere(self):
        """Two crossings that change places, one that is lacking, one that stands twice: as the document tells."""
        for rng, _, row in drawn_rows(120, 8):
            for _ in range(10):
                one, other = rng.randrange(len(row)), rng.randrange(len(row))
                changed = list(row)
                kind = rng.randrange(3)
                if kind == 0:
                    changed[one], changed[other] = changed[other], changed[one]
                elif kind == 1:
                    del changed[one]
                else:
                    changed.insert(one, changed[other])
                self.assertEqual(is_row(changed), plain_row(changed), changed)


def plain_row(row):
    """Whether crossings of good forms are a row."""
    if not row or row[0][0] != "start":
        return False
    control, asks, over = 0, [], False
    for crossing in row[1:]:
        word = crossing[0]
        if over or word == "start" or (word in ("call", "back", "deep", "end") and crossing[1] != control):
            return False
        if word == "call":
            asks.append(control)
            control = crossing[2]
            if len(asks) > 60 or control == asks[-1]:
                return False
        elif word == "back":
            if not asks or asks[-1] != crossing[2]:
                return False
            control = asks.pop()
        else:
            over = True
            if (word == "done" and asks) or (word == "deep" and (not asks or crossing[2] == control)):
                return False
    return True


class EndTest(unittest.TestCase):
    def test_example(self):
        self.assertEqual((control_of(ROW), open_of(ROW)), (0, [(0, 1), (1, 0)]))
        self.assertEqual((control_of(row=tuple(ROW)), open_of(row=tuple(ROW))), (0, [(0, 1), (1, 0)]))
        self.assertEqual((control_of(ROW[:1]), open_of(ROW[:1])), (0, []))
        self.assertEqual((control_of(ROW[:2]), open_of(ROW[:2])), (1, [(0, 1)]))

    def test_behind_last_crossings(self):
        for last in LASTS:
            self.assertEqual((control_of(ROW + [last]), open_of(ROW + [last])), (None, [(0, 1), (1, 0)]))
        row = ROW + [("back", 0, 1, 5), ("back", 1, 0, 6), ("done", 7)]
        self.assertEqual((control_of(row), open_of(row)), (None, []))
        self.assertEqual((control_of(row[:-1]), open_of(row[:-2])), (0, [(0, 1)]))

    def test_bad_rows_and_new_lists(self):
        for value in odd_values() + [[], ()]:
            self.assertRaises(BadRow, control_of, value)
            self.assertRaises(BadRow, open_of, value)
            self.assertRaises(BadRow, fits, value, None)
        open_of(ROW).clear()
        self.assertEqual(len(open_of(ROW)), 2)


class FaceTest(unittest.TestCase):
    def test_faces(self):
        eight = (tuple((1, door) for door in range(6)) + ((2, 0), (2, 1)), (), ())
        for face in [FACE, (1, ((),), (1,)), (60, ((),), (6,)), (5, ((),) * 6, (1, 2, 3, 4, 5, 6)), (1, eight, (1, 6, 6)),
                     (1, (((1, 5),), ((0, 0),)), (1, 6))]:
            self.assertIs(is_face(face), True)
        for seed in range(50):
            self.assertTrue(is_face(draw_face(random.Random(seed))))
            self.assertTrue(is_face(face_of(draw_program(seed))))

    def test_no_faces(self):
        nine = (tuple((1, door) for door in range(6)) + ((2, 0), (2, 1), (2, 2)), (), ())
        wrong = [(0, ((),), (1,)), (61, ((),), (1,)), (True, ((),), (1,)), (None, ((),), (1,)), (1, (), ()), (1, nine, (1, 6, 6)),
                 (1, ((),) * 7, (1,) * 7), (1, ((),), (1, 1)), (1, ((), ()), (1,)), (1, ((),), (0,)), (1, ((),), (7,)),
                 (1, ((),), (True,)), (1, ((),), (None,)), [1, ((),), (1,)], (1, [()], (1,)), (1, ((),), [1]), (1, ([],), (1,)),
                 (1, ((),)), (1, ((),), (1,), 0), (1, ((), None), (1, 1)), (1, ((),), 1), (10 ** 99, ((),), (1,)),
                 (1, (((1, 0), (1, 0)), ()), (1, 1))]
        for pair in [(0, 0), (2, 0), (-1, 0), (1, 1), (1, -1), (True, 0), (1, False), [1, 0], (1,), (1, 0, 0), (1, None), None,
                     ("1", 0), (1, "0"), (10 ** 99, 0), (1, 10 ** 99)]:
            wrong.append((1, ((pair,), ()), (1, 1)))
        for value in odd_values() + wrong:
            self.assertIs(is_face(value), False)
            self.assertRaises(BadFace, fits, ROW, value)
            self.assertRaises(BadFace, renumbered_face, value, None)
        for at in range(3):
            for value in odd_values():
                changed = FACE[:at] + (value,) + FACE[at + 1:]
                fine = (at == 0 and value == 1 and value is not True) or (at == 1 and value == ((), ()))
                self.assertIs(is_face(changed), fine)


class FitsTest(unittest.TestCase):
    def test_ordinary(self):
        self.assertIs(fits(ROW, FACE), True)
        self.assertIs(fits(face=FACE, row=tuple(ROW)), True)
        for row, face, told in [
                (ROW, (1, *FACE[1:]), False), (ROW[:2], (1, *FACE[1:]), True), (ROW, (2, ((), ((0, 1),)), (2, 1)), False),
                (ROW, (2, (((1, 0),), ()), (2, 1)), False), (ROW, (2, (((1, 0),), ((0, 0),)), (2, 1)), False),
                (ROW[:1], (1, ((),), (1,)), True), ([("start", 0), ("end", 0)], (1, ((),), (1,)), True),
                ([("start", 0), ("done", 0)], (1, ((),), (1,)), True), (ROW[:2], (1, ((),), (1,)), False),
                ([("start", 0), ("call", 0, 5, 5, 0)], FACE, False),
                (ROW[:2] + [("deep", 1, 0, 1, 3)], (1, *FACE[1:]), True), (ROW[:2] + [("deep", 1, 0, 1, 3)], FACE, False),
                (ROW[:2] + [("deep", 1, 0, 0, 3)], (1, *FACE[1:]), False), (ROW + [("deep", 0, 1, 0, 3)], FACE, True),
                (ROW + [("deep", 0, 1, 0, 3)], (3, *FACE[1:]), False), (ROW + [("deep", 0, 2, 0, 3)], FACE, False)]:
            self.assertIs(fits(row, face), told, (row, face))

    def test_open_asks_at_each_depth(self):
        for depth in [1, 2, 59, 60]:
            face = (depth, (((1, 0),), ((0, 0),)), (1, 1))
            for many in range(61):
                self.assertEqual(fits(ladder(many), face), many <= depth)
                if many:
                    last = ("deep", many % 2, 1 - many % 2, 0, 5)
                    self.assertEqual(fits(ladder(many) + [last], face), many == depth)

    def test_each_wire_is_needed(self):
        for _, face, row in drawn_rows(80):
            self.assertTrue(fits(row, face))
            asked = {(one[1], one[2:4]) for one in row if one[0] in ("call", "deep")}
            for room, wires in enumerate(face[1]):
                for at, pair in enumerate(wires):
                    less = face[1][:room] + (wires[:at] + wires[at + 1:],) + face[1][room + 1:]
                    self.assertEqual(fits(row, (face[0], less, face[2])), (room, pair) not in asked)
            for depth in range(1, 5):
                most = max(len(open_of(row[:many])) for many in range(1, len(row) + 1))
                told = most <= depth and (row[-1][0] != "deep" or most == depth)
                self.assertEqual(fits(row, (depth, *face[1:])), told)


class RenumberedTest(unittest.TestCase):
    def test_ordinary(self):
        row = ROW + [("back", 0, 1, 1), ("deep", 1, 0, 1, 0)]
        told = [("start", 4), ("call", 0, 3, 0, 7), ("call", 3, 0, 1, 2), ("back", 0, 3, 1), ("deep", 3, 0, 1, 0)]
        self.assertEqual(renumbered(row, [0, 3]), told)
        self.assertEqual(renumbered(order=(0, 3, 1, 2), row=tuple(row)), told)
        self.assertEqual(renumbered([("start", 1), ("done", 1)], [0]), [("start", 1), ("done", 1)])
        self.assertEqual(renumbered(ROW[:2] + [("end", 1)], [0, 5]), [("start", 4), ("call", 0, 5, 0, 7), ("end", 5)])
        face = (3, (((1, 0), (2, 1)), ((2, 0), (0, 0)), ((1, 0),)), (1, 2, 3))
        self.assertEqual(renumbered_face(face, [0, 2, 1]),
                         (3, (((2, 0), (1, 1)), ((2, 0),), ((1, 0), (0, 0))), (1, 3, 2)))
        self.assertEqual(renumbered_face(order=(0, 1, 2), face=face), face)

    def test_all_orders(self):
        for rng, face, row in drawn_rows(150):
            rooms = len(face[2])
            order = [0] + rng.sample(range(1, rooms), rooms - 1)
            new, new_face = renumbered(row, order), renumbered_face(face, order)
            self.assertTrue(is_row(new) and is_face(new_face))
            self.assertTrue(fits(new, new_face))
            back = [order.index(room) for room in range(rooms)]
            self.assertEqual((renumbered(new, back), renumbered_face(new_face, back)), (row, face))
            other = draw_face(rng, rooms)
            self.assertEqual(fits(new, renumbered_face(other, order)), fits(row, other))
            for room in range(rooms):
                view = [("calls", order[item[1]], *item[2:]) if item[0] == "calls" else item for item in view_of(row, room)]
                self.assertEqual(view_of(new, order[room]), view)
                self.assertEqual([new_face[2][order[room]], len(new_face[1][order[room]])], [face[2][room], len(face[1][room])])
                self.assertEqual(new_face[1][order[room]], tuple((order[to], door) for to, door in face[1][room]))

    def test_wrong_orders(self):
        face = (3, (((1, 0), (2, 1)), ((2, 0),), ()), (1, 2, 3))
        row = [("start", 0), ("call", 0, 2, 1, 0), ("end", 2)]
        good = [[0, 1, 2], [0, 2, 1]]
        for order in good:
            self.assertTrue(fits(renumbered(row, order), renumbered_face(face, order)))
        wrong = [[], [0], [0, 1], [0, 2], [1, 0, 2], [0, 1, 1], [0, 0, 1], [0, 1, 6], [0, 1, -1], [False, 1, 2], [0, True, 2],
                 [0, 1, None], [0, 1, "2"], [0, 1, (2,)], [0, 1, 10 ** 99], {0: 0, 1: 1, 2: 2}, "012", [0, 1, [2]],
                 [0, 1, 2, 3, 4, 5, 6], [0, 1, 2, 3, 4, 5, 5]]
        for order in wrong + odd_values():
            self.assertRaises(BadOrder, renumbered, row, order)
            self.assertRaises(BadOrder, renumbered_face, face, order)
        for order in [[0, 1, 5], [0, 3, 2], [0, 1, 2, 3], [0, 5, 4, 3, 2, 1]]:
            self.assertTrue(is_row(renumbered(row, order)))
            self.assertRaises(BadOrder, renumbered_face, face, order)
        for order in [[0], [0, 5], [0, 5, 1]]:
            self.assertEqual(renumbered([("start", 0), ("end", 0)], order), [("start", 0), ("end", 0)])

    def test_errors_in_their_order(self):
        for value in odd_values() + [[], ()]:
            self.assertRaises(BadRow, renumbered, value, None)
        self.assertEqual(views_in(ROW, 2), [view_of(ROW, 0), view_of(ROW, 1)])


if __name__ == "__main__":
    unittest.main()
