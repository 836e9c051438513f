"""Points [70] and [71]: small rooms, wishes, what they read."""

import random
import unittest

from drawn import draw_program
from drawnsmall import draw_small, draw_wish
from odd import odd_values
from ownharm.errors import BadView, BadWish, NotSmall
from ownharm.levels import are_alike, breaking, closed_level, contents, harm, is_harmless, is_kept, parting
from ownharm.partners import is_play, parting_partner, partner
from ownharm.rooms import is_room, node_at, nodes, part_names, with_node
from ownharm.rows import view_of
from ownharm.meaning import source_row
from ownharm.wishes import broken_at, is_small, is_wish, wish_state
from plainsmall import read_on


def ask(k, room="o", door="p", number=("number", 0)):
    return ("rest", ("ask", room, door, number), ("number", k))


def room(body, imports=(("o", "p"),), size=6, functions=(), doors=()):
    return ("m", imports, (("s", (0, None)),), functions, (("d", "x", size, body), *doors))


class IsSmallTest(unittest.TestCase):
    def test_small_rooms(self):
        for small in [room(()), room((("give", ask(1)),)), room((("give", ask(6)),)), room((), ()), room((), (), 1),
                      room((("give", ask(3, number=ask(2))),)), room((("let", "y", ("plus", ask(2), ask(3))),)),
                      room((("give", ("rest", ask(5), ("number", 9999))),)),
                      room((("if", ask(2), (("while", ask(3), (("store", "s", ask(2), ask(2)),)),), (("give", ask(1)),)),)),
                      room((("give", ("rest", ("local", "x"), ("number", 0))),)),
                      room((("give", ("rest", ("number", 9999), ask(2))),)),
                      room((("give", ("number", 9999)),), tuple(("o", door) for door in "abcdef")),
                      room((), functions=(("f", (), (("give", ask(4)),)),))]:
            self.assertTrue(is_room(small))
            self.assertIs(is_small(small), True, small)

    def test_imports(self):
        self.assertIs(is_small(room((), tuple(("o", door) for door in "abcdefg"))), False)
        self.assertIs(is_small(room((), (("o", "p"), ("n", "p")))), False)
        self.assertIs(is_small(room((), (("o", "p"), ("o", "q"), ("n", "q")))), False)
        self.assertIs(is_small(room((), (("o", "p"), ("o", "q")))), True)

    def test_sizes(self):
        for size in range(1, 10):
            self.assertIs(is_small(room((), size=size)), size <= 6)
            self.assertIs(is_small(room((), size=1, doors=(("e", "x", size, ()),))), size <= 6)
        self.assertIs(is_small(room((), size=10000)), False)

    def test_asks(self):
        bare = ("ask", "o", "p", ("number", 1))
        for value in [bare, ask(0), ask(7), ask(9999), ("rest", ("number", 2), bare), ("rest", bare, ("local", "x")),
                      ("rest", bare, ("plus", ("number", 1), ("number", 1))), ("plus", bare, ("number", 2)),
                      ("rest", ("plus", bare, ("number", 0)), ("number", 2)), ask(2, number=bare), ("plus", ask(2), bare),
                      ("rest", bare, bare), ("rest", ask(2, number=ask(7)), ("number", 2)), ("rest", bare, ("cell", "s", ("number", 0)))]:
            for body in [(("give", value),), (("let", "y", value),), (("if", ("number", 0), (), (("give", value),)),),
                         (("while", value, ()),), (("store", "s", value, ("number", 1)),)]:
                self.assertTrue(is_room(room(body)))
                self.assertIs(is_small(room(body)), False)
            self.assertIs(is_small(room((), functions=(("f", (), (("give", value),)),))), False)
            self.assertIs(is_small(room((("give", ask(2)),), doors=(("e", "x", 1, (("give", value),)),))), False)

    def test_other_values(self):
        for value in odd_values():
            self.assertIs(is_small(value), False)
        small = room((("give", ask(2)),))
        self.assertIs(is_small(list(small)), False)
        self.assertIs(is_small((*small[:2], list(small[2]), *small[3:])), False)
        self.assertIs(is_small(("o", *small[1:])), False)
        self.assertIs(is_small(room((("give", ("rest", ("ask", "o", "p", ("number", 0)), ("number", True))),))), False)

    def test_drawn_rooms(self):
        small = 0
        for seed in range(120):
            rng = random.Random(seed)
            source = draw_small(rng)
            self.assertIs(is_small(source), True)
            for part in part_names(source):
                for at, node in enumerate(nodes(source, part)):
                    if node[0] == "rest" and node[1][0] == "ask":
                        # Where the rest itself is rested by a small number the bare ask may stand, too.
                        outer = nodes(source, part)[at - 1]
                        rested = outer[0] == "rest" and outer[1] == node and outer[2][0] == "number" and 1 <= outer[2][1] <= 6
                        self.assertIs(is_small(with_node(source, (part, at), node[1])), rested)
                        self.assertIs(is_small(with_node(source, (part, at + 1), ("number", 1))), True)
                        self.assertIs(is_small(with_node(source, (part, at), (*node[:2], ("number", 7)))), False)
                        self.assertEqual(node_at(source, (part, at)), node)
                        small += 1
            for other in draw_program(seed)[1]:
                if is_small(other):
                    self.assertTrue(all(door[2] < 7 for door in other[4]))
        self.assertGreater(small, 100)

    def test_not_small_is_told_first(self):
        for value in odd_values() + [room((), size=7), room((("give", ("ask", "o", "p", ("number", 1))),))]:
            for task in [lambda: contents(value, "x"), lambda: closed_level(value), lambda: harm(value, "x"),
                         lambda: is_harmless(value, "x"), lambda: breaking(value, "x", "x"), lambda: is_kept(value, "x", "x"),
                         lambda: parting(value, "x", "x"), lambda: parting(room(()), value, "x"), lambda: are_alike(value, "x", "x"),
                         lambda: are_alike(room(()), value, "x"), lambda: is_play(value, "x"), lambda: partner(value, "x"),
                         lambda: parting_partner(value, "x", "x"), lambda: parting_partner(room(()), value, "x")]:
                with self.assertRaises(NotSmall):
                    task()


WISH = (3, ((0, "in", 2, 5, 9, 1), (0, "in", None, 0, 9999, 2), (1, "calls", 0, 3, 3, None), (1, "gives", None, 4, 4, 0),
            (1, "got", None, 0, 10, 2), (2, "ends", None, 0, 0, None), (2, "ends", None, 0, 9999, 1), (2, "gives", None, 1, 9, None)))


class IsWishTest(unittest.TestCase):
    def test_wishes(self):
        rule = (0, "in", None, 0, 0, 0)
        for wish in [WISH, (1, ()), (6, ()), (1, (rule,) * 40), (6, ((5, "calls", 5, 0, 9999, 5),)), (2, ((1, "ends", None, 7, 7, None),))]:
            self.assertIs(is_wish(wish), True)

    def test_no_wishes(self):
        rule = (0, "in", None, 0, 0, 0)
        self.assertIs(is_wish((1, ())), True)
        for wish in [value for value in odd_values() if value != (1, ())] + [(0, ()), (7, ()), (True, ()), (1, []), [1, ()], (1, (rule,) * 41), (1, (list(rule),)), (1, rule),
                                    (1, (rule[:5],)), (1, (rule + (0,),)), (1,), (1, (), ()), (1, {}), (1.0, ())]:
            self.assertIs(is_wish(wish), False)

    def test_each_item_of_a_rule(self):
        states = [0, 1, 2]
        doors = [None, 0, 5]
        good = {0: states, 1: ["in", "calls"], 2: doors, 3: [0, 1], 4: [3, 9999], 5: states + [None]}
        odd = odd_values() + [3, 6, -1, 10000, "In", "got", "gives", "ends", "calls", "in"]
        base = (2, "in", 1, 1, 3, 2)
        for at in range(6):
            for value in odd + good[at]:
                rule = base[:at] + (value,) + base[at + 1:]
                right = any(value == told and isinstance(value, bool) == isinstance(told, bool) and type(value) is type(told)
                            for told in good[at])
                if at == 2 and type(value) is int and 0 <= value <= 5:
                    right = True
                if at in (3, 4) and type(value) is int:
                    right = 0 <= rule[3] <= rule[4] <= 9999
                self.assertIs(is_wish((3, (rule,))), right, rule)
                self.assertIs(is_wish((3, (base, rule))), right, rule)
                # And with a word that has no door.
                plain = (2, "got", None, 1, 3, 2)
                rule = plain[:at] + (value,) + plain[at + 1:]
                if at in (1, 2):
                    right = value in ("in", "got", "calls", "gives", "ends") if at == 1 else value is None
                    self.assertIs(is_wish((3, (rule,))), right, rule)

    def test_doors_and_words(self):
        for word in ["in", "got", "calls", "gives", "ends"]:
            for door in [None, 0, 3, 5, 6, -1, False]:
                right = door is None or (door is not False and 0 <= door <= 5 and word in ("in", "calls"))
                self.assertIs(is_wish((1, ((0, word, door, 0, 9, 0),))), right)

    def test_bounds(self):
        for low, high, right in [(0, 0, True), (5, 4, False), (9999, 9999, True), (0, 10000, False), (-1, 5, False), (0, True, False)]:
            self.assertIs(is_wish((1, ((0, "got", None, low, high, 0),))), right)
        for states in range(1, 7):
            for state in range(8):
                self.assertIs(is_wish((states, ((state, "got", None, 0, 0, None),))), state < states)
                self.assertIs(is_wish((states, ((0, "got", None, 0, 0, state),))), state < states)


class ReadingTest(unittest.TestCase):
    def test_states(self):
        for view, state in [
            ([], 0), ([("in", 2, 5)], 1), ([("in", 2, 9)], 1), ([("in", 2, 4)], 2), ([("in", 2, 10)], 2), ([("in", 1, 5)], 2),
            ([("in", 2, 5), ("calls", 4, 0, 2)], 1), ([("in", 2, 5), ("calls", 4, 1, 3)], 1), ([("in", 2, 5), ("gives", 4)], 0),
            ([("in", 2, 5), ("gives", 5)], 1), ([("in", 2, 5), ("ends",)], 1),
            ([("in", 2, 5), ("calls", 1, 0, 2), ("got", 10)], 2), ([("in", 2, 5), ("calls", 1, 0, 2), ("got", 11)], 1),
            ([("in", 0, 0), ("gives", 10)], 2), ([("in", 0, 0), ("gives", 0)], 2),
        ]:
            self.assertEqual(wish_state(WISH, view), state)
            self.assertEqual(wish_state(WISH, tuple(view)), state)
            self.assertIsNone(broken_at(WISH, view))

    def test_broken(self):
        for view, at in [
            ([("in", 2, 5), ("calls", 4, 0, 3)], 1), ([("in", 2, 5), ("calls", 4, 0, 3), ("got", 4), ("gives", 4)], 1),
            ([("in", 0, 0), ("ends",)], 1), ([("in", 0, 0), ("gives", 1)], 1), ([("in", 0, 0), ("gives", 9), ("in", 2, 5)], 1),
            ([("in", 2, 5), ("gives", 4), ("in", 0, 0), ("gives", 9)], 3),
        ]:
            self.assertIsNone(wish_state(WISH, view))
            self.assertEqual(broken_at(WISH, view), at)
            self.assertEqual(broken_at(WISH, tuple(view)), at)

    def test_the_first_rule_that_fits(self):
        rules = ((0, "in", None, 3, 5, 1), (0, "in", 1, 4, 9, 2), (0, "in", None, 5, 5, None), (0, "in", None, 9, 9, None))
        for number, state in [(2, 0), (3, 1), (4, 1), (5, 1), (6, 2), (9, 2), (10, 0)]:
            self.assertEqual(wish_state((3, rules), [("in", 1, number)]), state)
        self.assertIsNone(wish_state((3, rules), [("in", 0, 9)]))
        self.assertEqual(wish_state((3, rules), [("in", 0, 6)]), 0)

    def test_the_number_of_an_end_is_0(self):
        for low, high, broken in [(0, 0, True), (0, 9999, True), (1, 9999, False)]:
            wish = (1, ((0, "ends", None, low, high, None),))
            self.assertEqual(broken_at(wish, [("in", 0, 7), ("ends",)]), 1 if broken else None)

    def test_the_door_of_a_call_is_that_of_the_other_room(self):
        wish = (1, ((0, "calls", 3, 0, 9999, None),))
        self.assertIsNone(broken_at(wish, [("in", 3, 0), ("calls", 3, 2, 3)]))
        self.assertEqual(broken_at(wish, [("in", 2, 0), ("calls", 2, 3, 2)]), 1)

    def test_drawn_views(self):
        broken = 0
        for seed in range(200):
            rng = random.Random(seed)
            wish = draw_wish(rng)
            self.assertIs(is_wish(wish), True)
            program = draw_program(seed)
            for number in (0, 1, 9999):
                row = source_row(program, number, 400)
                view = view_of(row, rng.randrange(len(program[1])))
                view = [(*item[:-1], item[-1] % rng.choice([2, 3, 11])) if len(item) > 1 else item for item in view]
                state = 0
                for at, item in enumerate(view):
                    state = read_on(wish, state, item)
                    if state is None:
                        broken += 1
                        self.assertEqual(broken_at(wish, view), at)
                        self.assertEqual(broken_at(wish, view[:at + 1]), at)
                        self.assertIsNone(broken_at(wish, view[:at]))
                        # It is broken for ever.
                        self.assertTrue(all(wish_state(wish, view[:many]) is None for many in range(at + 1, len(view) + 1)))
                        break
                    self.assertEqual(wish_state(wish, view[:at + 1]), state)
        self.assertGreater(broken, 30)

    def test_errors(self):
        for value in odd_values():
            for function in (wish_state, broken_at):
                if value != (1, ()):
                    with self.assertRaises(BadWish):
                        function(value, None)
                if value not in ([], ()):
                    with self.assertRaises(BadView):
                        function(WISH, value)
        for view in [[("gives", 1)], [("got", 1)], [("in", 0, 1), ("gives", 1), ("got", 1)], [["in", 0, 1]], [("in", 0, 1), ("ends",), ("in", 0, 1)]]:
            with self.assertRaises(BadView):
                wish_state(WISH, view)
        # Also behind what breaks the wish.
        with self.assertRaises(BadView):
            broken_at(WISH, [("in", 0, 0), ("gives", 1), ("got", 1)])


if __name__ == "__main__":
    unittest.main()
