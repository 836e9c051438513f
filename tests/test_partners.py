"""Points [76] to [78] and the HEARTs of [74] and [75]: plays, and the partners that bring them about."""

import random
import unittest

from drawnsmall import UNDEFINED, beside_partner, draw_small, draw_wish, exchanged_trap
from odd import odd_values
from ownharm.alone import view_alone
from ownharm.boards import board_of
from ownharm.compiling import compiled
from ownharm.errors import BadLevels, BadPlay, Harmful, OtherMake, TooLarge, TooLong, TooMany
from ownharm.levels import are_alike, breaking, harm, is_kept, parting
from ownharm.machine import machine_row
from ownharm.meaning import Run
from ownharm.partners import is_play, parting_partner, partner
from ownharm.rooms import is_program
from ownharm.rows import is_view, view_of
from ownharm.wishes import broken_at
from plainsmall import PlainTurns, behind
from smallrooms import EXAMPLE, asking, counting, nesting, small_room

HARMFUL = small_room("  uses o.p\n  block s 0\n  door d x 4\n    if (x = 1)\n      stop\n    if (x = 2)\n      give s[1]\n"
                     "    if (x = 3)\n      while 1\n        y = 0\n    give (o.p(x) rest 2)")


def draw_play(rng, small, most):
    """A play of the room, by a plain walk."""
    turns = PlainTurns(small)
    cells, waits, play = turns.first, (), []
    while len(play) < most:
        event = rng.choice(turns.events(waits, 30, [0, 1, 2, 9999, rng.randrange(10000)]))
        play.append(event)
        act, cells, waiting = turns.turn(cells, waits[-1] if waits and event[0] == "got" else None, event)
        if act is None or act[0] == "undefined":
            return play
        play.append(act)
        if act == ("ends",):
            return play
        waits = behind(waits, event, waiting)
    return play[:most]


def deep_play(levels):
    """The play of EXAMPLE with so many runnings open."""
    return [item for _ in range(levels) for item in (("in", 0, 7), ("calls", 0, 0, 0))]


class IsPlayTest(unittest.TestCase):
    def test_drawn_plays_and_their_beginnings(self):
        for seed in range(120):
            rng = random.Random(seed)
            small = draw_small(rng, 0.02, 3, UNDEFINED)
            play = draw_play(rng, small, rng.choice([6, 20, 40]))
            for many in range(len(play) + 1):
                self.assertIs(is_play(small, play[:many]), True)
                self.assertIs(is_play(small, tuple(play[:many])), True)

    def test_other_items(self):
        wrong = 0
        for seed in range(80):
            rng = random.Random(seed)
            small = draw_small(rng, 0, 3)
            play = draw_play(rng, small, 14)
            for at, item in enumerate(play):
                for other in [("gives", 7), ("calls", 0, 0, 7), ("calls", 1, 0, 0), ("ends",), ("in", 2, 0), ("in", 0, 0), ("got", 1)]:
                    changed = play[:at] + [other]
                    # Only an event may be another one, as long as it can come.
                    expected = other == item
                    if at % 2 == 0 and other[0] in ("in", "got"):
                        calls = [one[0] for one in play[:at]].count("calls") - [one[0] for one in play[:at]].count("got")
                        expected = other[1] < len(small[4]) if other[0] == "in" else calls > 0
                    self.assertIs(is_play(small, changed), expected, (play[:at], other))
                    wrong += not expected
        self.assertGreater(wrong, 400)

    def test_thirty_runnings_at_most(self):
        for levels in (1, 29, 30):
            self.assertIs(is_play(EXAMPLE, deep_play(levels)), True)
        self.assertIs(is_play(EXAMPLE, deep_play(30) + [("in", 0, 0)]), False)
        self.assertIs(is_play(EXAMPLE, deep_play(31)), False)
        again = deep_play(30) + [("got", 5), ("gives", 0), ("in", 0, 0), ("calls", 0, 0, 0)]
        self.assertIs(is_play(EXAMPLE, again), True)
        self.assertIs(is_play(EXAMPLE, again + [("in", 0, 0)]), False)

    def test_nothing_follows(self):
        for number, act in [(1, ("ends",)), (2, None), (3, None), (4, ("calls", 0, 0, 0))]:
            play = [("in", 0, number)]
            self.assertIs(is_play(HARMFUL, play), True)
            for told in [("ends",), ("gives", 0), ("calls", 0, 0, 0), ("calls", 0, 0, number)]:
                self.assertIs(is_play(HARMFUL, play + [told]), told == act)
        self.assertIs(is_play(HARMFUL, [("in", 0, 1), ("ends",), ("in", 0, 1)]), False)

    def test_turns_of_2000_steps(self):
        # 2000 steps, and 2001.
        for last, number, good in [("    give i\n", 249, True), ("    y = i\n", 0, False)]:
            small = small_room(f"  block s 0\n  door d x 1\n    i = 0\n    while (i < 249)\n      i = (i + 1)\n{last}")
            self.assertIs(is_play(small, [("in", 0, 0)]), True)
            self.assertIs(is_play(small, [("in", 0, 0), ("gives", number)]), good)

    def test_other_values(self):
        for value in odd_values():
            self.assertIs(is_play(EXAMPLE, value), value in ([], ()))
            if value not in (("in", 0, 3), 0):
                self.assertIs(is_play(EXAMPLE, [value]), False)
        for play in [[("in", 0, 7), ("calls", 0, 0, False)], [("in", False, 7)], [["in", 0, 7]], [("in", 0, 7), ["calls", 0, 0, 0]],
                     [("in", 0, 7), ("calls", 1, 0, 0)], {("in", 0, 7): 1}]:
            self.assertIs(is_play(EXAMPLE, play), False)


class PartnerTest(unittest.TestCase):
    def check_form(self, program, small):
        self.assertTrue(is_program(program))
        depth, (mate, other) = program
        self.assertEqual((depth, other), (60, small))
        self.assertEqual(mate[1], tuple((small[0], door[0]) for door in small[4]))
        self.assertTrue(all(door[2] == 10000 for door in mate[4]))
        self.assertNotEqual(mate[0], small[0])
        if small[1]:
            self.assertEqual([(mate[0], door[0]) for door in mate[4]], list(small[1]))
        else:
            self.assertEqual(len(mate[4]), 1)

    def check_row(self, row, play, fault=False):
        """The view of room 1 begins with the play, and the mate ends the run once it has control behind it."""
        view = view_of(row, 1)
        self.assertEqual(view[:len(play)], list(play))
        self.assertTrue(is_view(view))
        if play and play[-1] == ("ends",):
            self.assertEqual(row[-1], ("end", 1))
        elif len(play) % 2 == 0:
            self.assertEqual((view, row[-1]), (list(play), ("end", 0)))
        elif view[len(play):] == [("ends",)]:
            self.assertEqual(row[-1], ("end", 1))
        elif not fault:
            self.assertEqual((len(view), row[-1]), (len(play) + 1, ("end", 0)))
        else:
            self.assertEqual(view, list(play))

    def check_machine(self, program, small, play, fault, steps):
        try:
            board = board_of(program)
        except TooLarge:
            return False
        foreign = board_of((60, program[1]), {0: compiled(program, 0)})
        for told in (board, foreign):
            row = machine_row(told, 0, steps)
            if fault:
                self.assertEqual(view_of(row, 1)[:len(play)], list(play))
            else:
                self.check_row(row, play)
        return True

    def test_drawn_plays(self):
        machines = 0
        for seed in range(70):
            rng = random.Random(seed)
            small = draw_small(rng, 0.02, 3, UNDEFINED)
            play = draw_play(rng, small, rng.choice([5, 12, 31, 60]))
            for many in sorted({0, 1, len(play), len(play) - 1, rng.randrange(len(play))}):
                program = partner(small, play[:many])
                self.check_form(program, small)
                self.assertEqual(partner(small, tuple(play[:many])), program)
                run = Run(program, 0)
                run.go(10 ** 6 if len(play) < 40 else 30000)
                fault = run.fault is not None or run.state == "running"
                self.assertTrue(run.fault is None or run.fault[0] == 1)
                self.check_row(run.row, play[:many], fault)
                if many == len(play):
                    machines += self.check_machine(program, small, play, fault, 20000)
        self.assertGreater(machines, 40)

    def test_the_empty_play(self):
        for small in [EXAMPLE, HARMFUL, counting(3)]:
            run = Run(partner(small, []), 0)
            run.go(1000)
            self.assertEqual(run.row, [("start", 0), ("end", 0)])

    def test_names(self):
        for name in ["mate", "other", "m", "go"]:
            small = (name, (), (), (), (("go", "x", 2, (("give", ("local", "x")),)),))
            program = partner(small, [("in", 0, 5), ("gives", 1)])
            self.check_form(program, small)
        taken = ("turn0", (("e", "turn0"), ("e", "turn1"), ("e", "x")), (), (), tuple((door, "x", 1, ()) for door in ["s", "t", "first", "out", "kind", "to"]))
        program = partner(taken, [("in", 5, 0), ("gives", 0)])
        self.check_form(program, taken)
        run = Run(program, 0)
        run.go(1000)
        self.check_row(run.row, [("in", 5, 0), ("gives", 0)])

    def test_as_deep_as_can_be(self):
        for play in [deep_play(30), deep_play(30) + [("got", 4), ("gives", 0)], deep_play(30) + [("got", 4), ("gives", 0)] * 30,
                     deep_play(30) + [("got", 4), ("gives", 0)] * 30 + deep_play(2)]:
            program = partner(EXAMPLE, play)
            run = Run(program, 0)
            run.go(10 ** 6)
            self.check_row(run.row, play)
            self.assertTrue(self.check_machine(program, EXAMPLE, play, False, 10 ** 6))

    def test_as_long_as_can_be(self):
        play = [("in", 0, 0), ("gives", 1)] * 200
        small = small_room("  door d x 1\n    give 1")
        run = Run(partner(small, play), 0)
        run.go(10 ** 6)
        self.check_row(run.row, play)
        self.assertTrue(self.check_machine(partner(small, play), small, play, False, 10 ** 6))
        unlike = [item for at in range(200) for item in (("in", 0, at), ("gives", 1))]
        run = Run(partner(small, unlike), 0)
        run.go(10 ** 6)
        self.check_row(run.row, unlike)
        for told in [play + [("in", 0, 0)], play + [("in", 0, 0), ("gives", 1)]]:
            self.assertTrue(is_play(small, told))
            with self.assertRaises(TooMany) as caught:
                partner(small, told)
            self.assertEqual(caught.exception.most, 400)
        with self.assertRaises(BadPlay):
            partner(small, play + [("in", 0, 0), ("gives", 2)])

    def test_errors(self):
        for value in odd_values():
            if value not in ([], ()):
                with self.assertRaises(BadPlay):
                    partner(EXAMPLE, value)
        for play in [[("in", 0, 0), ("gives", 0)], [("got", 0)], [("in", 1, 0)], deep_play(31)]:
            with self.assertRaises(BadPlay):
                partner(EXAMPLE, play)

    def test_the_play_is_not_changed(self):
        play = deep_play(2)
        partner(EXAMPLE, play)
        self.assertEqual(play, deep_play(2))


class HeartTest(unittest.TestCase):
    def test_what_breaks_a_wish_does_it_beside_the_partner(self):
        broken = 0
        for seed in range(220):
            rng = random.Random(seed)
            small = draw_small(rng, 0, 3, UNDEFINED if rng.random() < 0.2 else None)
            wish = draw_wish(rng)
            try:
                play = breaking(small, wish, rng.choice([None, 1, 2]))
            except Harmful as error:
                run = Run(partner(small, error.view), 0)
                run.go(10 ** 6)
                self.assertEqual(run.fault[0], 1)
                self.assertEqual(view_of(run.row, 1), error.view)
                continue
            except (TooLong, TooMany):
                continue
            if play is None:
                continue
            run = Run(partner(small, play), 0)
            run.go(10 ** 6)
            self.assertEqual(broken_at(wish, view_of(run.row, 1)), len(play) - 1)
            broken += 1
        self.assertGreater(broken, 30)

    def test_no_partner_breaks_what_is_kept(self):
        kept = 0
        for seed in range(60):
            rng = random.Random(seed)
            small = draw_small(rng, 0, 3)
            wish = draw_wish(rng)
            try:
                if not is_kept(small, wish):
                    continue
            except (TooLong, TooMany, Harmful):
                continue
            kept += 1
            for _ in range(6):
                self.assertIsNone(broken_at(wish, draw_play(rng, small, 60)))
        self.assertGreater(kept, 10)

    def test_harm_is_shown_by_the_partner(self):
        for small in [nesting("    if (s[0] = 30)\n      y = s[1]\n"), counting(100, 1, "    y = s[1]\n"), asking(100, "    y = s[1]\n")]:
            play, place = harm(small)
            run = Run(partner(small, play), 0)
            run.go(10 ** 6)
            self.assertEqual((run.state, run.fault), ("undefined", (1, place)))
            self.assertEqual(view_of(run.row, 1), play)
            self.assertEqual(view_alone(beside_partner(small), 1, play[::2])[-1], ("undefined", *place))


class PartingPartnerTest(unittest.TestCase):
    def check(self, one, other, levels=None):
        plays = parting(one, other, levels)
        mate = parting_partner(one, other, levels)
        if plays is None:
            self.assertIsNone(mate)
            return False
        rows = []
        for small, play in zip((one, other), plays):
            program = (60, (mate, small))
            PartnerTest.check_form(self, program, small)
            run = Run(program, 0)
            run.go(10 ** 6)
            PartnerTest.check_row(self, run.row, play)
            rows.append(run.row)
            row = machine_row(board_of(program), 0, 10 ** 6)
            self.assertEqual(row, run.row)
        self.assertNotEqual(*rows)
        return True

    def test_drawn_rooms(self):
        parted = 0
        for seed in range(150):
            rng = random.Random(seed)
            small = draw_small(rng, 0, 3, UNDEFINED)
            one = exchanged_trap(small, UNDEFINED, ("give", ("number", 5)))
            other = exchanged_trap(small, UNDEFINED, rng.choice([("give", ("number", 4)), ("stop",), ("let", "x", ("number", 1))]))
            try:
                parted += self.check(one, other, rng.choice([None, 1, 2]))
            except (TooLong, TooMany, Harmful):
                continue
        self.assertGreater(parted, 25)

    def test_rooms_that_part_late_or_never(self):
        self.assertTrue(self.check(counting(50), counting(51)))
        self.assertTrue(self.check(asking(90, "    give 7\n"), asking(91, "    give 7\n")))
        self.assertTrue(self.check(nesting("    if (s[0] = 30)\n      give 1\n"), nesting("    if (s[0] = 30)\n      stop\n")))
        self.assertFalse(self.check(EXAMPLE, EXAMPLE))
        self.assertFalse(self.check(nesting("    if (s[0] = 4)\n      give 1\n"), nesting("    if (s[0] = 4)\n      stop\n"), 3))
        self.assertTrue(self.check(asking(199, "    give 7\n"), asking(199, "    stop\n")))

    def test_nobody_tells_alike_rooms_apart(self):
        one = small_room("  uses o.p\n  door d x 6\n    give (o.p((x rest 2)) rest 2)")
        other = small_room("  uses o.p\n  block b 0\n  door d k 2\n    b[0] = o.p(k) rest 2\n    give b[0]".replace("o.p(k) rest 2", "(o.p(k) rest 2)"))
        self.assertTrue(are_alike(one, other))
        rng = random.Random(3)
        for _ in range(40):
            play = draw_play(rng, one, 30)
            self.assertTrue(is_play(other, play))
            rows = [Run((60, (partner(small, play)[1][0], small)), 0) for small in (one, other)]
            for run in rows:
                run.go(10 ** 6)
            self.assertEqual(rows[0].row, rows[1].row)

    def test_errors(self):
        with self.assertRaises(OtherMake):
            parting_partner(EXAMPLE, counting(3))
        with self.assertRaises(BadLevels):
            parting_partner(EXAMPLE, counting(3), 0)
        with self.assertRaises(Harmful):
            parting_partner(counting(3), counting(3, 1, "    y = s[1]\n"))
        with self.assertRaises(TooMany) as caught:
            parting_partner(asking(200, "    give 7\n"), asking(200, "    give 8\n"))
        self.assertEqual(caught.exception.most, 400)
        with self.assertRaises(TooMany) as caught:
            parting_partner(counting(200), counting(3))
        self.assertEqual(caught.exception.most, 200)


if __name__ == "__main__":
    unittest.main()
