"""Points [54] to [56]: views, rows taken apart into views and put together again."""

import itertools
import random
import unittest

from drawn import draw_program
from drawnrows import draw_face, draw_row, draw_views, views_in
from drawnsections import draw_board
from odd import odd_values
from ownharm.alone import view_alone
from ownharm.errors import BadFace, BadRoomNumber, BadRow, BadViews, Unfit
from ownharm.machine import machine_row
from ownharm.meaning import Run, source_row
from ownharm.rooms import face_of
from ownharm.rows import fits, is_row, is_view, joined, view_of
from ownharm.sections import board_face

FACE = (1, (((1, 0),), ()), (1, 1))
VIEWS = [[("in", 0, 3), ("calls", 1, 0, 5), ("got", 6), ("gives", 1)], [("in", 0, 5), ("gives", 6)]]
ROW = [("start", 3), ("call", 0, 1, 0, 5), ("back", 1, 0, 6), ("done", 1)]
LONG = [("in", 0, 3), ("calls", 5, 5, 9999), ("in", 5, 0), ("calls", 0, 0, 0), ("got", 0), ("gives", 1), ("got", 9999),
        ("ends",)]


class IsViewTest(unittest.TestCase):
    def test_views(self):
        for many in range(len(LONG) + 1):
            self.assertIs(is_view(LONG[:many]), True)
            self.assertIs(is_view(tuple(LONG[:many])), True)
        for view in [[], (), [("in", 5, 0), ("gives", 0), ("in", 0, 0), ("gives", 0)], VIEWS[0], VIEWS[1],
                     [("in", 0, 0), ("gives", 0), ("in", 0, 0), ("gives", 0), ("in", 0, 0)]]:
            self.assertIs(is_view(view), True)

    def test_views_of_rows(self):
        for seed in range(60):
            program = draw_program(seed)
            row = source_row(program, seed, 300)
            rng = random.Random(seed)
            for told in [row, machine_row(draw_board(rng), 3, 200), draw_row(rng, draw_face(rng), 30)]:
                for room in range(6):
                    self.assertTrue(is_view(view_of(told, room)))

    def test_no_views(self):
        event, ask, give, end = ("in", 0, 0), ("calls", 1, 0, 0), ("gives", 0), ("ends",)
        wrong = [
            [ask], [give], [end], [("got", 0)], [event, event], [event, ask, ask], [event, give, give], [event, give, ("got", 0)],
            [event, ask, ("got", 0), give, ("got", 0)], [event, end, event], [event, end, event, give], [event, end, end],
            [event, end, ("got", 0)], [event, ("got", 0)], [event, event, ask], [event, ask, event, event],
            [event, ask, event, ask, ("got", 0), give, ("got", 0), give, ("got", 0)], [event, ask, end], event, ("ends",),
            {0: event}, [event, ask, event, give, ("got", 0), give, ("got", 0)],
        ]
        for value in odd_values() + wrong:
            self.assertIs(is_view(value), isinstance(value, (list, tuple)) and len(value) == 0, value)

    def test_each_item_broken(self):
        for at, item in enumerate(LONG):
            for spot in range(len(item)):
                for value in odd_values() + [6, 10000, -1, "Ends", ("ends",)]:
                    changed = item[:spot] + (value,) + item[spot + 1:]
                    fine = spot > 0 and type(value) is int and 0 <= value <= 1
                    fine = fine or (type(value) is int and value == 6 and spot == len(item) - 1 and spot > 0)
                    self.assertIs(is_view(LONG[:at] + [changed]), fine, changed)
            for changed in [item[:-1], item + (0,), list(item), None, 5, (), item[0]]:
                self.assertIs(is_view(LONG[:at] + [changed] + LONG[at + 1:]), False, changed)
            for word in ["in", "got", "calls", "gives", "ends", "", None, ["in"]]:
                if word != item[0]:
                    self.assertIs(is_view(LONG[:at] + [(word,) + item[1:]]), (word, at) == ("got", 99))

    def test_items_put_elsewhere(self):
        for seed in range(150):
            rng = random.Random(seed)
            _, views = draw_views(rng, draw_face(rng, 2), 14)
            view = rng.choice(views)
            if view:
                one, other = rng.randrange(len(view)), rng.randrange(len(view))
                changed = list(view)
                if rng.random() < 0.5:
                    changed[one], changed[other] = changed[other], changed[one]
                else:
                    del changed[one]
                self.assertEqual(is_view(changed), plain_view(changed), changed)


def plain_view(view):
    """Whether items of good forms are a view."""
    for at, item in enumerate(view):
        if (item[0] in ("in", "got")) != (at % 2 == 0):
            return False
        words = [one[0] for one in view[:at]]
        if item[0] == "got" and words.count("calls") <= words.count("got"):
            return False
        if "ends" in words:
            return False
    return True


class ViewOfTest(unittest.TestCase):
    def test_each_crossing(self):
        row = [("start", 4), ("call", 0, 2, 1, 7), ("call", 2, 0, 3, 8), ("back", 0, 2, 9), ("deep", 2, 4, 5, 1)]
        self.assertEqual(view_of(row, 0), [("in", 0, 4), ("calls", 2, 1, 7), ("in", 3, 8), ("gives", 9)])
        self.assertEqual(view_of(row, 2), [("in", 1, 7), ("calls", 0, 3, 8), ("got", 9), ("calls", 4, 5, 1)])
        for room in [1, 3, 4, 5]:
            self.assertEqual(view_of(row, room), [])
        self.assertEqual(view_of([("start", 1), ("done", 2)], 0), [("in", 0, 1), ("gives", 2)])
        self.assertEqual(view_of([("start", 1), ("done", 2)], 1), [])
        self.assertEqual(view_of([("start", 1), ("end", 0)], 0), [("in", 0, 1), ("ends",)])
        self.assertEqual(view_of(room=1, row=(("start", 1), ("call", 0, 1, 0, 2), ("end", 1))), [("in", 0, 2), ("ends",)])
        self.assertEqual(view_of([("start", 1), ("call", 0, 1, 0, 2), ("end", 1)], 0), [("in", 0, 1), ("calls", 1, 0, 2)])

    def test_drawn_rows(self):
        for seed in range(100):
            rng = random.Random(seed)
            row, views = draw_views(rng, draw_face(rng), rng.randint(1, 40))
            self.assertEqual([view_of(row, room) for room in range(len(views))], views)

    def test_each_crossing_is_one_act_and_one_event(self):
        for seed in range(60):
            rng = random.Random(seed)
            row = draw_row(rng, draw_face(rng), 20)
            for many in range(1, len(row) + 1):
                ahead = [view_of(row[:many - 1], room) if many > 1 else [] for room in range(6)]
                now = [view_of(row[:many], room) for room in range(6)]
                more = []
                for one, other in zip(ahead, now):
                    self.assertEqual(other[:len(one)], one)
                    more += [item[0] for item in other[len(one):]]
                word = row[many - 1][0]
                events = sorted(one for one in more if one in ("in", "got"))
                acts = [one for one in more if one not in ("in", "got")]
                self.assertEqual(len(events), 0 if word in ("deep", "done", "end") else 1)
                self.assertEqual(len(acts), 0 if word == "start" else 1)

    def test_views_are_what_the_rooms_do_alone(self):
        for seed in range(80):
            program = draw_program(seed)
            run = Run(program, seed)
            run.go(500)
            for room in range(len(program[1])):
                view = view_of(run.row, room)
                alone = view_alone(program, room, view[::2])
                self.assertEqual(alone[:len(view)], view)

    def test_errors_in_their_order(self):
        for value in odd_values() + [[], ()]:
            self.assertRaises(BadRow, view_of, value, None)
        for room in [-1, 6, True, False, None, "0", (0,), [0], {}, 10 ** 99]:
            self.assertRaises(BadRoomNumber, view_of, ROW, room)
        view_of(ROW, 0).clear()
        self.assertEqual(len(view_of(ROW, 0)), 4)


def plain_joined(face, views):
    """The row of the views, or the pair (room, at) of Unfit, as the document tells it."""
    depth, wires, _ = face
    read = [0] * len(views)

    def following(room):
        return views[room][read[room]] if read[room] < len(views[room]) else None

    first = following(0)
    if first is None or first[:2] != ("in", 0):
        return (0, 0)
    row, asks, control = [("start", first[2])], [], 0
    read[0] = 1
    while True:
        act = following(control)
        if act is None:
            break
        place = read[control]
        read[control] += 1
        if act[0] == "ends":
            row.append(("end", control))
            break
        if act[0] == "calls":
            if act[1:3] not in wires[control]:
                return (control, place)
            if len(asks) == depth:
                row.append(("deep", control, *act[1:]))
                break
            to, needed, crossing = act[1], ("in", *act[2:]), ("call", control, *act[1:])
            asks.append(control)
        else:
            if not asks:
                row.append(("done", act[1]))
                break
            to = asks.pop()
            needed, crossing = ("got", act[1]), ("back", control, to, act[1])
        if following(to) != needed:
            return (to, read[to])
        read[to] += 1
        row.append(crossing)
        control = to
    for room, view in enumerate(views):
        if read[room] < len(view):
            return (room, read[room])
    return row


class JoinedTest(unittest.TestCase):
    def check(self, face, views):
        told = plain_joined(face, views)
        if isinstance(told, tuple):
            self.check_unfit(face, views, *told)
        else:
            row = joined(face, views)
            self.assertEqual(row, told)
            self.assertTrue(is_row(row) and fits(row, face))
            self.assertEqual([view_of(row, room) for room in range(len(views))], [list(view) for view in views])
        return told

    def check_unfit(self, face, views, room, at):
        with self.assertRaises(Unfit) as caught:
            joined(face, views)
        self.assertEqual((caught.exception.room, caught.exception.at), (room, at), (face, views))

    def test_example(self):
        self.assertEqual(joined(FACE, VIEWS), ROW)
        self.assertEqual(joined(views=tuple(tuple(view) for view in VIEWS), face=FACE), ROW)
        self.assertIsInstance(joined(FACE, VIEWS), list)

    def test_rows_of_faces(self):
        for seed in range(250):
            rng = random.Random(seed)
            face = draw_face(rng)
            row, views = draw_views(rng, face, rng.randint(1, 60), rng.choice([0.3, 0.6, 0.95]))
            self.assertEqual(joined(face, views), row)

    def test_rows_of_programs_and_boards(self):
        for seed in range(100):
            rng = random.Random(seed)
            program, board = draw_program(seed), draw_board(rng)
            for row, face in [(source_row(program, seed, 500), face_of(program)),
                              (machine_row(board, rng.randrange(10000), 300), board_face(board))]:
                self.assertEqual(joined(face, [view_of(row, room) for room in range(len(face[2]))]), row)

    def test_sixty_open_asks(self):
        face = (60, (((1, 0),), ((0, 0),)), (1, 1))
        row = [("start", 0)] + [("call", at % 2, 1 - at % 2, 0, at) for at in range(60)]
        for last in [[], [("deep", 0, 1, 0, 7)], [("back", 0, 1, 7)]]:
            self.assertEqual(joined(face, views_in(row + last, 2)), row + last)
        self.check_unfit(face, [*views_in(row + [("deep", 0, 1, 0, 7)], 2)[:1], views_in(row, 2)[1] + [("in", 0, 5)]], 1, 60)

    def test_where_it_begins(self):
        for first, at in [([], 0), ([("in", 1, 3)], 0), ([("in", 5, 0), ("gives", 1)], 0)]:
            self.check_unfit((1, (((1, 0),), ()), (6, 1)), [first, []], 0, at)
            self.check_unfit((1, (((1, 0),), ()), (6, 1)), [first, VIEWS[1]], 0, at)
        self.assertEqual(joined(FACE, [[("in", 0, 9999)], []]), [("start", 9999)])

    def test_each_way_not_to_fit(self):
        one, two = VIEWS
        for views, room, at in [
                # No wire: another door, another room, the room itself, a room that is not there.
                ([[one[0], ("calls", 1, 1, 5)], []], 0, 1), ([[one[0], ("calls", 2, 0, 5)], []], 0, 1),
                ([[one[0], ("calls", 0, 0, 5)], []], 0, 1), ([[one[0], ("calls", 5, 5, 5)], two], 0, 1),
                ([one, [two[0], ("calls", 0, 0, 6)]], 1, 1),
                # What comes in is another item, or is lacking.
                ([one, []], 1, 0), ([one, [("in", 0, 4), two[1]]], 1, 0), ([one, [("in", 1, 5), two[1]]], 1, 0),
                ([[*one[:2], ("in", 0, 6)], two], 0, 2), ([[*one[:2], ("got", 7)], two], 0, 2), ([one[:2], two], 0, 2),
                # What is left over: behind a row that simply ends, behind a done, an end.
                ([one[:1], two], 1, 0), ([one + [("in", 0, 1)], two], 0, 4), ([one, two + [("in", 0, 5)]], 1, 2),
                ([one, two + [("in", 0, 5), ("ends",)]], 1, 2), ([one[:2] + [("got", 6)], [two[0], ("ends",)]], 0, 2),
                ([one[:2], two[:1] + [("ends",)]], None, None), ([one[:2], two[:1]], None, None),
                ([one[:2] + [("in", 0, 1)], two[:1]], 0, 2)]:
            if room is None:
                self.assertEqual(self.check(FACE, views), joined(FACE, views))
            else:
                self.assertEqual(plain_joined(FACE, views), (room, at))
                self.check_unfit(FACE, views, room, at)

    def test_a_deep_ends_the_row(self):
        face = (1, (((1, 0),), ((0, 0),)), (1, 1))
        views = [[("in", 0, 3), ("calls", 1, 0, 5)], [("in", 0, 5), ("calls", 0, 0, 9)]]
        self.assertEqual(joined(face, views), [("start", 3), ("call", 0, 1, 0, 5), ("deep", 1, 0, 0, 9)])
        self.check_unfit(face, [views[0] + [("in", 0, 9)], views[1]], 0, 2)
        self.check_unfit(face, [views[0], views[1] + [("got", 1)]], 1, 2)
        deeper = (2, *face[1:])
        self.check_unfit(deeper, views, 0, 2)
        self.assertEqual(joined(deeper, [views[0] + [("in", 0, 9)], views[1]])[-1], ("call", 1, 0, 0, 9))
        # The wires are looked at ahead of the depth.
        self.check_unfit((1, (((1, 0),), ()), (1, 1)), views, 1, 1)

    def test_two_rooms_wrong_at_once(self):
        face = (1, (((1, 0), (2, 0)), (), ()), (1, 1, 1))
        extra = [("in", 0, 8)]
        first = [("in", 0, 3), ("calls", 2, 0, 5), ("got", 6), ("gives", 1)]
        for views, room, at in [([first, extra, [("in", 0, 5), ("gives", 6)] + extra], 1, 0),
                                ([first, extra, []], 2, 0), ([first, extra, [("in", 0, 5), ("gives", 7)]], 0, 2),
                                ([first + extra, [], [("in", 0, 5), ("gives", 6)] + extra], 0, 4),
                                ([first[:1], extra, extra], 1, 0), ([[], extra, extra], 0, 0)]:
            self.assertEqual(plain_joined(face, views), (room, at))
            self.check_unfit(face, views, room, at)

    def test_drawn_views_changed_at_one_place(self):
        unfit = 0
        for seed in range(500):
            rng = random.Random(seed)
            face = draw_face(rng)
            _, views = draw_views(rng, face, rng.randint(2, 12))
            room = rng.choice([at for at, view in enumerate(views) if view])
            view, at = list(views[room]), rng.randrange(len(views[room]))
            kind = rng.randrange(5)
            if kind == 0:
                view = view[:at]
            elif kind == 1:
                view[at] = view[at][:-1] + (rng.randrange(10000),) if len(view[at]) > 1 else ("gives", 5)
            elif kind == 2 and view[at][0] in ("in", "calls"):
                view[at] = view[at][:-2] + (rng.randrange(6), view[at][-1])
            elif kind == 3:
                view = view + ([("in", 0, 5)] if len(view) % 2 == 0 else [rng.choice([("gives", 1), ("ends",)])])
            else:
                view[at] = ("in", 0, 5) if at % 2 == 0 else rng.choice([("gives", 5), ("ends",), ("calls", 1, 0, 5)])
            changed = views[:room] + [view] + views[room + 1:]
            if is_view(view):
                unfit += isinstance(self.check(face, changed), tuple)
            else:
                self.assertRaises(BadViews, joined, face, changed)
        self.assertGreater(unfit, 150)

    def small_rows(self, face, most):
        """All rows of the face with at most so many crossings, all numbers in them 0."""
        found, grown = [], [[("start", 0)]]
        while grown:
            row = grown.pop()
            found.append(row)
            if len(row) < most:
                for crossing in [("call", 0, 1, 0, 0), ("call", 1, 0, 0, 0), ("back", 0, 1, 0), ("back", 1, 0, 0),
                                 ("deep", 0, 1, 0, 0), ("deep", 1, 0, 0, 0), ("done", 0), ("end", 0), ("end", 1)]:
                    if is_row(row + [crossing]) and fits(row + [crossing], face):
                        grown.append(row + [crossing])
        return found

    def test_all_small_views(self):
        """Every pair of short views: just those of a row are joined."""
        events, acts = [("in", 0, 0), ("got", 0)], [("calls", 1, 0, 0), ("calls", 0, 0, 0), ("gives", 0), ("ends",)]
        views = [list(told) for many in range(5)
                 for told in itertools.product(*[acts if at % 2 else events for at in range(many)]) if is_view(told)]
        for depth in [1, 2]:
            face = (depth, (((1, 0),), ((0, 0),)), (1, 1))
            rows = {str(views_in(row, 2)): row for row in self.small_rows(face, 5)}
            for pair in itertools.product(views, views):
                if sum(map(len, pair)) <= 5:
                    told = self.check(face, list(pair))
                    self.assertEqual(rows.get(str(list(pair))), None if isinstance(told, tuple) else told)

    def test_rows_whose_views_are_beginnings_of_one_another(self):
        """Room by room, whichever: then one of the rows is a beginning of the other one."""
        face = (2, (((1, 0),), ((0, 0),)), (1, 1))
        rows = self.small_rows(face, 10)
        views = [views_in(row, 2) for row in rows]
        self.assertGreater(len(rows), 50)
        for one, own in zip(rows, views):
            for other, told in zip(rows, views):
                if all(a[:len(b)] == b or b[:len(a)] == a for a, b in zip(own, told)):
                    shorter = min(len(one), len(other))
                    self.assertEqual(one[:shorter], other[:shorter])

    def test_errors_in_their_order(self):
        for value in odd_values():
            self.assertRaises(BadFace, joined, value, None)
            self.assertRaises(BadViews, joined, FACE, value if value != ((), ()) else [()])
            if not (isinstance(value, (list, tuple)) and len(value) == 0):
                self.assertRaises(BadViews, joined, FACE, [value, VIEWS[1]])
                self.assertRaises(BadViews, joined, FACE, [[], value])
        for views in [[], [VIEWS[0]], VIEWS + [[]], [VIEWS[0], None], [VIEWS[0], [("gives", 6)]], {0: VIEWS[0], 1: VIEWS[1]},
                      [[("calls", 1, 0, 1)], []]]:
            self.assertRaises(BadViews, joined, FACE, views)
        self.check_unfit(FACE, ((), ()), 0, 0)


if __name__ == "__main__":
    unittest.main()
