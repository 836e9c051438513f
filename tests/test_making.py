"""Points [62] to [64] and the bound of [42] for them: rooms made from trees."""

import random
import unittest

from drawn import draw_program
from drawnrows import draw_face, draw_row, views_in
from grown import draw_bare_program, draw_meeting_program, grow, run_of, with_room
from odd import odd_values
from ownharm.alone import view_alone
from ownharm.boards import board_of
from ownharm.compiling import compiled, places_of
from ownharm.errors import BadProgram, BadRoomNumber, BadRow, BadTree, TooMany
from ownharm.machine import Machine, machine_row
from ownharm.making import made, made_all
from ownharm.meaning import source_row
from ownharm.rooms import face_of, is_program, is_room
from ownharm.roomtexts import program_of, program_text
from ownharm.rows import control_of, view_of
from ownharm.viewtrees import act_behind, least_tree, tree_of
from plainroom import PlainRoom
from plaintrees import ENDS, draw_event, draw_tree, renumbered, tells, unfolded, ways_of, with_dead_ends
from watch import Watch

LAST = ("deep", "done", "end")
PAIR = program_of("""depth 3
room main
  uses store.get store.put
  door go x 10
  door again y 7
room store
  uses main.again
  block b 1
  door get i 5
    give b[0]
  door put i 5
""")
STORE = ((None, ((("in", 0, 3), 1),)), (("gives", 7), ((("in", 0, 3), 2),)), (("gives", 8), ()))


def crossings_of(row):
    """How often control goes over, last crossings left out."""
    return len([crossing for crossing in row if crossing[0] not in LAST])


class MadeTest(unittest.TestCase):
    def test_example(self):
        new = with_room(PAIR, 1, made(PAIR, 1, STORE))
        self.assertEqual(view_alone(new, 1, [("in", 0, 3), ("in", 0, 3), ("in", 0, 3)]),
                         [("in", 0, 3), ("gives", 7), ("in", 0, 3), ("gives", 8), ("in", 0, 3), ENDS])
        self.assertEqual(view_alone(new, 1, [("in", 0, 3), ("in", 0, 4)]), [("in", 0, 3), ("gives", 7), ("in", 0, 4), ENDS])
        self.assertEqual(view_alone(new, 1, [("in", 1, 3)]), [("in", 1, 3), ENDS])

    def test_what_stays_and_what_does_not(self):
        for seed in range(60):
            rng = random.Random(seed)
            program = draw_bare_program(rng, draw_face(rng))
            wires = face_of(program)[1]
            for room, source in enumerate(program[1]):
                new = made(program, room, draw_tree(rng, 12, wires[room], len(source[4])))
                self.assertTrue(is_room(new))
                self.assertEqual(new[:2], source[:2])
                self.assertEqual([(door[0], door[1], door[2]) for door in new[4]], [(door[0], door[1], 10000) for door in source[4]])
                whole = with_room(program, room, new)
                self.assertTrue(is_program(whole))
                self.assertEqual(face_of(whole), face_of(program))
                self.assertEqual(program_of(program_text(whole)), whole)

    def test_six_doors_and_eight_imports(self):
        doors = tuple((name, name, 1, ()) for name in ["turn0", "turn1", "turn2", "e", "x", "first"])
        others = tuple((name, (), (), (), tuple((door, "x", 1, ()) for door in "uvwx")) for name in ["s", "t"])
        main = ("m", tuple((room, door) for door in "uvwx" for room in "ts"), (), (), doors)
        program = (60, (others[0], main, others[1]))
        wires = face_of(program)[1][1]
        self.assertEqual(len(wires), 8)
        view = []
        for turn in range(40):
            view.append(("in", turn % 6, turn) if turn % 3 else ("got", turn) if turn else ("in", 5, 9999))
            view.append(("calls", *wires[turn % 8], turn * 3) if turn % 4 != 3 else ("gives", turn))
        new = with_room(program, 1, made(program, 1, tree_of([view])))
        self.assertEqual(view_alone(new, 1, view[::2]), view)
        self.assertEqual(view_alone(new, 1, view[:-1:2] + [("got", 7)])[-1], ENDS)

    def test_each_act_is_that_of_the_tree_in_at_most_so_many_steps(self):
        acts = 0
        for seed in range(150):
            rng = random.Random(seed)
            program = draw_bare_program(rng, draw_face(rng))
            room = rng.randrange(len(program[1]))
            wires, doors = face_of(program)[1][room], len(program[1][room][4])
            tree = draw_tree(rng, rng.choice([1, 2, 5, 30, 90]), wires, doors)
            new = with_room(program, room, made(program, room, tree))
            most = 40 * sum(len(children) for _, children in least_tree(tree)) + 150
            for _ in range(4):
                alone, events, node = PlainRoom(new, room), [], 0
                for _ in range(12):
                    known = list(tree[node][1]) if node is not None else []
                    event, node = rng.choice(known) if known and rng.random() < 0.9 else (draw_event(rng, doors, not known), None)
                    if event[0] == "got" and not alone.runnings:
                        break
                    if node is None:
                        node = dict(tree[0][1]).get(event) if not events else None
                    events.append(event)
                    alone.come_in(event)
                    act, steps = alone.act_within(most)
                    self.assertEqual(act, tells(tree, events))
                    acts += 1
                    if act == ENDS:
                        break
        self.assertGreater(acts, 800)

    def test_steps_of_great_fans_and_of_nothing(self):
        main = ("m", (("s", "u"),), (), (), (("go", "x", 1, ()), ("on", "x", 1, ())))
        program = (2, (main, ("s", (), (), (), (("u", "x", 1, ()),))))
        for many in (0, 1, 2, 7, 400):
            fan = (None, tuple((("in", 0, 5000 + at), 1) for at in range(many)))
            tree = (fan, (("calls", 1, 0, 7), ()))[:1 + (many > 0)]
            for events in [[("in", 0, 5000 + at)] for at in {0, many // 2, max(many - 1, 0)}] + [[("in", 1, 5000)], [("in", 0, 9999)]]:
                alone = PlainRoom(with_room(program, 0, made(program, 0, tree)), 0)
                alone.come_in(events[0])
                self.assertEqual(alone.act_within(40 * many + 150)[0], tells(tree, events))
        last = ((None, ((("in", 0, 0), 1),)), (("calls", 1, 0, 1), tuple((("got", at), 2) for at in range(399))), (("calls", 1, 0, 2), ()))
        for number in (0, 398, 399):
            alone = PlainRoom(with_room(program, 0, made(program, 0, last)), 0)
            alone.come_in(("in", 0, 0))
            self.assertEqual(alone.act_within(200)[0], ("calls", 1, 0, 1))
            alone.come_in(("got", number))
            self.assertEqual(alone.act_within(40 * 400 + 150)[0], ("calls", 1, 0, 2) if number < 399 else ENDS)

    def test_beside_drawn_partners_and_called_back(self):
        acts = back = 0
        for seed in range(90):
            rng = random.Random(seed)
            program = draw_meeting_program(rng, rng.choice([1, 2, 60]))
            room = rng.randrange(3)
            views, tree = grow(program, room, rng, 20)
            new = with_room(program, room, made(program, room, tree))
            for number in (0, 3, 9999, 12):
                run = run_of(new, number)
                self.assertTrue(run.fault is None or run.fault[0] != room)
                view = view_of(run.row, room)
                for at in range(1, len(view), 2):
                    self.assertEqual(view[at], act_behind(tree, view[:at:2]))
                    acts += 1
                waits = 0
                for item in view:
                    back += item[0] == "in" and waits > 0
                    waits += {"calls": 1, "got": -1}.get(item[0], 0)
                watch = Watch(self, new, {}, number)
                watch.go(2000)
                row = watch.machine.row
                self.assertEqual(row[:len(run.row)], run.row[:len(row)])
        self.assertGreater(acts, 500)
        self.assertGreater(back, 60)

    def test_the_same_room_for_what_tells_the_same(self):
        for seed in range(40):
            rng = random.Random(seed)
            program = draw_bare_program(rng, draw_face(rng, 3))
            room = rng.randrange(3)
            wires, doors = face_of(program)[1][room], len(program[1][room][4])
            tree = draw_tree(rng, 20, wires, max(doors, 1))
            told = made(program, room, tree)
            others = [least_tree(tree), renumbered(tree, rng), unfolded(tree, rng, 7)]
            if doors >= 3:
                others.append(with_dead_ends(tree, rng, 5))
            for other in others:
                self.assertEqual(made(program, room, other), told)
            # Neither the depth nor the other rooms' texts matter, nor the room's own blocks, functions and bodies.
            sources = [source if at == room else (*source[:2], (("b", (at,)),), (), tuple((*door[:2], 3, (("stop",),)) for door in source[4]))
                       for at, source in enumerate(program[1])]
            own = program[1][room]
            sources[room] = (*own[:2], (("q", (1,)),), (("fun", (), ()),), tuple((*door[:2], 5, (("give", ("number", 1)),)) for door in own[4]))
            self.assertEqual(made((60, tuple(sources)), room, tree), told)

    def test_other_trees_are_other_rooms(self):
        for tree in [((None, ()),), STORE[:1] + ((("gives", 7), ()),), STORE[:2] + ((("gives", 9), ()),)]:
            self.assertNotEqual(made(PAIR, 1, tree), made(PAIR, 1, STORE))

    def test_as_many_as_there_may_be(self):
        # A chain of 400 nodes; with one more.
        for many in (400, 401):
            nodes = [(None, ((("in", 0, 0), 1),))]
            nodes += [(("gives", at), ((("in", 1, at), at + 1),) if at < many - 1 else ()) for at in range(1, many)]
            if many == 400:
                view = [item for at in range(1, 400) for item in (("in", 0, 0) if at == 1 else ("in", 1, at - 1), ("gives", at))]
                self.assertEqual(tree_of([view]), tuple(nodes))
                new = with_room(PAIR, 1, made(PAIR, 1, tuple(nodes)))
                self.assertEqual(view_alone(new, 1, view[::2]), view)
                self.assertEqual(view_alone(new, 1, view[::2] + [("in", 0, 0)])[-1], ENDS)
            else:
                with self.assertRaises(TooMany) as caught:
                    made(PAIR, 1, tuple(nodes))
                self.assertEqual(caught.exception.most, 400)
        # As many children, of few nodes; with one more; and with more that only end.
        for many, ends in [(400, 0), (401, 0), (400, 30), (300, 0)]:
            children = tuple((("in", at % 2, at // 2), 1) for at in range(many))
            children += tuple((("in", 1, 5000 + at), 2) for at in range(ends))
            tree = ((None, tuple(sorted(children))), (("gives", 1), ())) + (((None, ()),) if ends else ())
            if many <= 400:
                new = with_room(PAIR, 1, made(PAIR, 1, tree))
                self.assertEqual(view_alone(new, 1, [("in", 1, 100)], 40 * 400 + 150)[-1], ("gives", 1))
            else:
                with self.assertRaises(TooMany) as caught:
                    made(PAIR, 1, tree)
                self.assertEqual(caught.exception.most, 400)
        # A tree of many nodes that has a small least tree.
        wide = ((None, tuple((("in", 0, at), at + 1) for at in range(300))),) + tuple(
            (("gives", 1), ((("in", 0, 0), 301 + at),)) for at in range(300)) + ((("gives", 2), ()),) * 300
        self.assertEqual(len(least_tree(wide)), 3)
        self.assertTrue(is_room(made(PAIR, 1, wide)))

    def test_errors(self):
        for value in odd_values():
            with self.assertRaises(BadProgram):
                made(value, None, None)
            if value not in (0, 1) or isinstance(value, bool):
                with self.assertRaises(BadRoomNumber):
                    made(PAIR, value, None)
            with self.assertRaises(BadTree):
                made(PAIR, 0, value)
        with self.assertRaises(BadRoomNumber):
            made(PAIR, 2, STORE)

    def test_trees_that_a_room_cannot_do(self):
        for room, act in [(0, ("calls", 0, 0, 1)), (0, ("calls", 1, 2, 1)), (0, ("calls", 2, 0, 1)), (1, ("calls", 0, 0, 1)),
                          (1, ("calls", 1, 0, 1))]:
            with self.assertRaises(BadTree):
                made(PAIR, room, ((None, ((("in", 0, 0), 1),)), (act, ())))
        for room, act in [(0, ("calls", 1, 0, 1)), (0, ("calls", 1, 1, 1)), (1, ("calls", 0, 1, 1))]:
            self.assertTrue(is_room(made(PAIR, room, ((None, ((("in", 1, 0), 1),)), (act, ())))))
        for event in [("in", 2, 0), ("in", 5, 0)]:
            with self.assertRaises(BadTree):
                made(PAIR, 0, ((None, ((event, 1),)), (("gives", 1), ())))
            # Also where the least tree has it no longer, and ahead of what would be too many.
            with self.assertRaises(BadTree):
                made(PAIR, 0, ((None, ((event, 1),)), (ENDS, ())))
            with self.assertRaises(BadTree):
                made(PAIR, 0, ((None, ((("in", 0, 0), 1),)), (("gives", 1), ((event, 2),)), (None, ())))
        many = tuple((("in", 0, at), at + 1) for at in range(500))
        with self.assertRaises(BadTree):
            made(PAIR, 0, ((None, many),) + ((("gives", 1), ()),) * 499 + ((("calls", 0, 0, 0), ()),))


class RowsTest(unittest.TestCase):
    def drawn(self, seed, most=60):
        rng = random.Random(seed)
        face = draw_face(rng)
        return rng, draw_bare_program(rng, face), draw_row(rng, face, rng.randint(1, most))

    def test_all_rooms_made_show_the_row_and_end(self):
        for seed in range(150):
            rng, program, row = self.drawn(seed)
            whole = made_all(program, row)
            self.assertTrue(is_program(whole))
            run = run_of(whole, row[0][1], 20000)
            expected = row if row[-1][0] in LAST else row + [("end", control_of(row))]
            self.assertEqual(run.row, expected)
            self.assertEqual(run.state, expected[-1][0])
            self.assertEqual(made_all(program, tuple(row)), whole)

    def test_on_the_machine(self):
        for seed in range(40):
            rng, program, row = self.drawn(seed, 30)
            expected = row if row[-1][0] in LAST else row + [("end", control_of(row))]
            machine = Machine(board_of(made_all(program, row)), row[0][1])
            machine.go(200000)
            self.assertEqual(machine.row, expected)

    def test_cut_anywhere(self):
        for seed in range(25):
            rng, program, row = self.drawn(seed, 25)
            for many in range(1, len(row) + 1):
                run = run_of(made_all(program, row[:many]), row[0][1], 10000)
                end = [] if row[many - 1][0] in LAST else [("end", control_of(row[:many]))]
                self.assertEqual(run.row, row[:many] + end)

    def test_some_rooms_made_beside_others_that_do_what_the_row_tells(self):
        shown = 0
        for seed in range(160):
            rng = random.Random(seed)
            program = draw_program(seed)
            row = source_row(program, seed, 400)
            for room in range(len(program[1])):
                if rng.random() < 0.5:
                    program = with_room(program, room, made(program, room, tree_of([view_of(row, room)])))
            self.assertEqual(source_row(program, seed, 40000)[:len(row)], row)
            shown += len(row)
        self.assertGreater(shown, 300)

    def test_one_room_for_several_programs(self):
        used = 0
        for seed in range(60):
            rng = random.Random(seed)
            program = draw_program(seed)
            room = rng.randrange(len(program[1]))
            others = [program]
            for other in range(200):
                # The other rooms do something else.
                drawn = [(*source[:4], tuple((*door[:3], (("give", ("number", rng.randrange(3))),)) for door in source[4]))
                         for source in program[1]]
                drawn[room] = program[1][room]
                others.append((rng.randint(1, 5), tuple(drawn)))
                if other == 2:
                    break
            rows = [source_row(one, number, 300) for one in others for number in (0, 5)]
            tree = tree_of([view_of(row, room) for row in rows])
            for at, row in enumerate(rows):
                one = others[at // 2]
                new = made(one, room, tree)
                self.assertEqual(new, made(program, room, tree))
                self.assertEqual(source_row(with_room(one, room, new), row[0][1], 40000)[:len(row)], row)
                used += len(view_of(row, room)) > 1
        self.assertGreater(used, 100)

    def test_the_views_of_a_made_room_make_it_again(self):
        for seed in range(60):
            rng = random.Random(seed)
            program = draw_bare_program(rng, draw_face(rng, 3))
            room = rng.randrange(3)
            tree = draw_tree(rng, 8, face_of(program)[1][room], len(program[1][room][4]))
            ways = ways_of(tree)
            new = with_room(program, room, made(program, room, tree))
            views = []
            for way in ways:
                events, waits = [], 0
                for at in range(0, len(way), 2):
                    if way[at][0] == "got" and waits == 0:
                        break
                    events.append(way[at])
                    waits += (way[at + 1][0] == "calls") - (way[at][0] == "got")
                views.append(view_alone(new, room, events))
            if 0 < len(views) < 200 and all(len(view) == len(way) for view, way in zip(views, ways)):
                self.assertEqual(made(program, room, tree_of(views)), new[1][room])

    def test_errors(self):
        for value in odd_values():
            with self.assertRaises(BadProgram):
                made_all(value, None)
            with self.assertRaises(BadRow):
                made_all(PAIR, value)
        for row in [[("start", 1), ("call", 0, 1, 2, 1)], [("start", 1), ("call", 0, 2, 0, 1)], [("start", 1), ("end", 1)],
                    [("start", 1), ("call", 0, 1, 0, 1), ("call", 1, 0, 0, 1)], [("start", 1), ("call", 0, 1, 0, 1), ("deep", 1, 0, 1, 1)]]:
            with self.assertRaises(BadRow):
                made_all(PAIR, row)

    def test_too_many(self):
        def long_row(asks):
            row = [("start", 1)]
            for _ in range(asks):
                row += [("call", 0, 1, 0, 1), ("back", 1, 0, 2)]
            return row

        # Room 0 has an event at the start and one at each back; behind the last one nothing is told.
        self.assertEqual(source_row(made_all(PAIR, long_row(399)), 1, 10 ** 6), long_row(399) + [("end", 0)])
        for row in [long_row(399) + [("call", 0, 1, 0, 1)], long_row(400)]:
            with self.assertRaises(TooMany) as caught:
                made_all(PAIR, row)
            self.assertEqual(caught.exception.most, 400)


class BoundTest(unittest.TestCase):
    def bound_program(self, depth):
        doors = [["u", "v", "w", "z"]] * 2
        one = ("m", tuple(("s", door) for door in doors[1]), (), (), tuple((door, "x", 10000, ()) for door in doors[0]))
        other = ("s", tuple(("m", door) for door in doors[0]), (), (), tuple((door, "x", 10000, ()) for door in doors[1]))
        return (depth, (one, other))

    def trees(self):
        events = [("in", at % 4, at) for at in range(99)]
        acts = [("calls", 1, at % 4, at) if at % 3 else ("gives", at) for at in range(99)]
        chain = [(None, ((events[0], 1),))] + [(acts[at], ((events[at + 1], at + 2),) if at < 98 else ()) for at in range(99)]
        self.assertEqual(len(chain), 100)
        fan = [(None, tuple(sorted((events[at], at + 1) for at in range(99))))] + [(acts[at], ()) for at in range(99)]
        yield tuple(chain)
        # One child more: 100 nodes and 100 children.
        yield (chain[0], (chain[1][0], tuple(sorted(chain[1][1] + ((("got", 5), 3),)))), *chain[2:])
        yield (fan[0], (fan[1][0], ((("got", 5), 2),)), *fan[2:])
        yield ((None, tuple((("in", 3, at), 1) for at in range(100))), (acts[1], ()))

    def test_just_at_the_bound(self):
        for depth in range(1, 9):
            program = self.bound_program(depth)
            for tree in self.trees():
                least = least_tree(tree)
                self.assertTrue(max(len(least), sum(len(children) for _, children in least)) == 100 or len(least) == 100)
                new = with_room(program, 0, made(program, 0, tree))
                self.assertLessEqual(len(compiled(new, 0)[0]), 4000)
                self.assertEqual(len(places_of(new, 0)), len(compiled(new, 0)[0]))

    def test_on_the_machine_at_depth_8(self):
        for seed in range(12):
            rng = random.Random(seed)
            program = self.bound_program(8)
            face = face_of(program)
            row = draw_row(rng, face, 190, 0.55)
            cut = [many for many in range(1, len(row) + 1)
                   if max(len(view[::2]) for view in views_in(row[:many], 2)) <= 99][-1]
            row = row[:cut]
            whole = made_all(program, row)
            board = board_of(whole)
            expected = row if row[-1][0] in LAST else row + [("end", control_of(row))]
            self.assertEqual(machine_row(board, row[0][1], 10 ** 6), expected)


if __name__ == "__main__":
    unittest.main()
