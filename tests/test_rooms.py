"""Points [4], [5], [8], [11], [12], [13]: nodes, places, faces, other names, what a part may run and ask."""

import copy
import unittest

from drawn import draw_program
from odd import odd_values
from ownharm.errors import BadNode, BadPlace, BadProgram, BadRoom, BadTable, NoPart, NoRoom, OwnharmError
from ownharm.rooms import (asks_of, depth_of, face_of, is_name, is_room, node_at, nodes, number_of, part_names,
                           room_renamed, runs_of, with_node)

ZERO = ("number", 0)
X = ("local", "x")
ONE = ("number", 1)
LESS = ("less", X, ("number", 3))
PLUS = ("plus", X, ONE)
LET = ("let", "x", PLUS)
WHILE = ("while", LESS, (LET,))
GIVE = ("give", X)
EXAMPLE = ("a", (), (), (), (("go", "x", 10, (WHILE, GIVE)),))

CELL = ("cell", "k", ("number", 4))
RUN = ("run", "f", (("number", 1), ("number", 2)))
ASK = ("ask", "b", "d", ("local", "z"))
STORE = ("store", "k", CELL, RUN)
IF = ("if", ("same", X, ONE), (STORE, ("stop",)), (("give", ASK),))
ALL = ("all", (("b", "d"), ("c", "d")), (("k", (0, None)),), (("f", ("p", "q"), (GIVE,)),), (
    ("go", "x", 10, (IF, LET)), ("to", "y", 10000, ())))
ALL_GO = [IF, IF[1], X, ONE, STORE, CELL, ("number", 4), RUN, ("number", 1), ("number", 2), ("stop",),
          ("give", ASK), ASK, ("local", "z"), LET, PLUS, X, ONE]
ALL_DEPTHS = [1, 2, 3, 3, 2, 3, 4, 3, 4, 4, 2, 2, 3, 4, 1, 2, 3, 3]

ODD_PLACES = [("go", 0, 0), ["go", 0], ("go",), ("go", -1), ("go", 18), ("go", True), ("go", "0"), ("no", 0), (None, 0),
              ("go", None), (0, "go"), (["go"], 0), ("to", 0), ("go", 10 ** 99), (("go", 0), 0), ("go", (0,))]


class NodesTest(unittest.TestCase):
    def test_part_names(self):
        self.assertEqual(part_names(ALL), ("f", "go", "to"))
        self.assertEqual(part_names(EXAMPLE), ("go",))

    def test_nodes_in_reading_order(self):
        self.assertEqual(nodes(EXAMPLE, "go"), [WHILE, LESS, X, ("number", 3), LET, PLUS, X, ONE, GIVE, X])
        self.assertEqual(nodes(ALL, "go"), ALL_GO)
        self.assertEqual(nodes(ALL, "f"), [GIVE, X])
        self.assertEqual(nodes(ALL, "to"), [])

    def test_node_at_and_depth_of(self):
        for at, node in enumerate(ALL_GO):
            self.assertEqual(node_at(ALL, ("go", at)), node)
            self.assertEqual(depth_of(ALL, ("go", at)), ALL_DEPTHS[at])
        self.assertEqual([depth_of(EXAMPLE, ("go", at)) for at in range(10)], [1, 2, 3, 3, 2, 3, 4, 4, 1, 2])

    def test_lists_are_new(self):
        first = nodes(ALL, "go")
        first.clear()
        self.assertEqual(nodes(ALL, "go"), ALL_GO)
        self.assertIsInstance(part_names(ALL), tuple)

    def test_no_part(self):
        for value in odd_values() + ["f ", "all", "b", "k", "d"]:
            if value == "go" and isinstance(value, str):
                continue
            for function in (nodes, runs_of, asks_of):
                with self.assertRaises(NoPart) as caught:
                    function(ALL, value)
                self.assertIs(caught.exception.part, value)

    def test_bad_places(self):
        for place in ODD_PLACES + [value for value in odd_values() if value != ("go", 0)]:
            for call in [lambda: node_at(ALL, place), lambda: depth_of(ALL, place), lambda: with_node(ALL, place, ZERO),
                         lambda: with_node(ALL, place, None)]:
                self.assertRaises(BadPlace, call)

    def test_drawn_rooms(self):
        for seed in range(20):
            for source in draw_program(seed)[1]:
                for part in source[3] + source[4]:
                    self.check_part(source, part)

    def check_part(self, source, part):
        found = nodes(source, part[0])
        depths = [depth_of(source, (part[0], at)) for at in range(len(found))]
        self.assertEqual([node for node, depth in zip(found, depths) if depth == 1], list(part[-1]))
        self.assertTrue(all(1 <= depth <= 12 for depth in depths) and len(found) <= 200)
        for at, node in enumerate(found):
            self.assertEqual(node_at(source, (part[0], at)), node)
            self.assertEqual(with_node(source, (part[0], at), node), source)
        self.assertRaises(BadPlace, node_at, source, (part[0], len(found)))


class WithNodeTest(unittest.TestCase):
    def test_ordinary(self):
        self.assertEqual(with_node(EXAMPLE, ("go", 7), ("number", 2)), (
            "a", (), (), (), (("go", "x", 10, (("while", LESS, (("let", "x", ("plus", X, ("number", 2))),)), GIVE)),)))
        self.assertEqual(with_node(EXAMPLE, ("go", 0), ("stop",)), (
            "a", (), (), (), (("go", "x", 10, (("stop",), GIVE)),)))
        changed = with_node(ALL, ("f", 1), ZERO)
        self.assertEqual(changed[3], (("f", ("p", "q"), (("give", ZERO),)),))
        self.assertEqual(changed[:3] + changed[4:], ALL[:3] + ALL[4:])

    def test_each_node_of_all_kinds(self):
        for at, node in enumerate(ALL_GO):
            new = ("stop",) if node[0] in ("let", "store", "if", "give", "stop") else ("local", "new")
            changed = with_node(ALL, ("go", at), new)
            behind = at + 1
            while behind < len(ALL_GO) and ALL_DEPTHS[behind] > ALL_DEPTHS[at]:
                behind += 1
            found = nodes(changed, "go")
            self.assertEqual(found[at], new)
            self.assertEqual(found[at + 1:], ALL_GO[behind:])
            for ahead in range(at):
                holds = ALL_DEPTHS[ahead] < min(ALL_DEPTHS[ahead + 1:at + 1])
                self.assertEqual(found[ahead] == ALL_GO[ahead], new == node or not holds, (at, ahead))
            old = with_node(changed, ("go", at), node)
            self.assertEqual(old, ALL)

    def test_bad_nodes(self):
        for node in odd_values() + [["number", 1], ("cell", "j", ZERO), ("ask", "b", "e", ZERO), ("run", "f", (ZERO,)),
                                    ("run", "go", (ZERO,)), ("number", True), ("number", 10000), ("stop",), GIVE]:
            with self.assertRaises(BadNode):
                with_node(ALL, ("go", 2), node)
        for node in odd_values() + [X, ZERO, ["stop"], ("give",), ("let", "if", ZERO)]:
            with self.assertRaises(BadNode):
                with_node(ALL, ("go", 14), node)
        self.assertRaises(BadNode, with_node, ALL, ("f", 1), ("run", "f", (ZERO, ZERO)))

    def test_bounds(self):
        full = ("a", (), (), (), (("go", "x", 1, (("stop",),) * 199),))
        self.assertRaises(BadNode, with_node, full, ("go", 5), ("give", ("plus", X, X)))
        self.assertEqual(len(nodes(with_node(full, ("go", 5), ("give", X)), "go")), 200)
        deep = ("give", X)
        for _ in range(10):
            deep = ("while", X, (deep,))
        source = ("a", (), (), (), (("go", "x", 1, (deep,)),))
        at = len(nodes(source, "go")) - 1
        self.assertEqual(depth_of(source, ("go", at)), 12)
        self.assertRaises(BadNode, with_node, source, ("go", at), ("plus", X, X))
        self.assertTrue(is_room(with_node(source, ("go", at), ONE)))


class OrderOfErrorsTest(unittest.TestCase):
    def test_source_first(self):
        for value in odd_values():
            for call in [lambda: part_names(value), lambda: nodes(value, None), lambda: node_at(value, None),
                         lambda: with_node(value, None, None), lambda: depth_of(value, None),
                         lambda: room_renamed(value, None), lambda: runs_of(value, None), lambda: asks_of(value, None)]:
                self.assertRaises(BadRoom, call)
            for call in [lambda: face_of(value), lambda: number_of(value, None)]:
                self.assertRaises(BadProgram, call)

    def test_by_names(self):
        self.assertEqual(nodes(source=EXAMPLE, part="go"), nodes(EXAMPLE, "go"))
        self.assertEqual(with_node(node=ZERO, place=("go", 9), source=EXAMPLE), with_node(EXAMPLE, ("go", 9), ZERO))
        self.assertEqual(room_renamed(table={}, source=ALL), ALL)


class ProgramTest(unittest.TestCase):
    def program(self):
        a = ("a", (("c", "e"), ("b", "d"), ("c", "d")), (), (), (("go", "x", 1, ()),))
        b = ("b", (), (), (("f", (), ()),), (("d", "x", 1, ()),))
        c = ("c", (("b", "d"),), (), (), (("d", "x", 1, ()), ("e", "x", 1, ()), ("g", "x", 1, ())))
        return (7, (a, b, c))

    def test_face(self):
        self.assertEqual(face_of(self.program()), (7, (((2, 1), (1, 0), (2, 0)), (), ((1, 0),)), (1, 1, 3)))
        self.assertEqual(face_of((60, (EXAMPLE,))), (60, ((),), (1,)))

    def test_number_of(self):
        self.assertEqual([number_of(self.program(), name) for name in "abc"], [0, 1, 2])
        for value in odd_values() + ["d", "go", "ab"]:
            with self.assertRaises(NoRoom) as caught:
                number_of(self.program(), value)
            self.assertIs(caught.exception.name, value)


class RenamedTest(unittest.TestCase):
    def test_all_at_once(self):
        changed = room_renamed(ALL, {"b": "c", "c": "b"})
        self.assertEqual(changed[1], (("c", "d"), ("b", "d")))
        self.assertEqual(node_at(changed, ("go", 12)), ("ask", "c", "d", ("local", "z")))
        self.assertEqual((changed[0],) + changed[2:4], (ALL[0],) + ALL[2:4])
        self.assertEqual(room_renamed(changed, {"b": "c", "c": "b"}), ALL)
        self.assertEqual(room_renamed(ALL, {"all": "b", "b": "all"})[:2], ("b", (("all", "d"), ("c", "d"))))

    def test_only_names_of_rooms(self):
        self.assertEqual(room_renamed(ALL, {"k": "j", "f": "h", "go": "to", "x": "y", "d": "e", "z": "w"}), ALL)
        self.assertEqual(room_renamed(ALL, {"all": "new"}), ("new",) + ALL[1:])
        same = ("a", (("x", "x"),), (("x", (0,)),), (("x", ("x",), ()),), (("d", "x", 1, (
            ("store", "x", X, ("ask", "x", "x", ("run", "x", (("cell", "x", X),)))),)),))
        self.assertEqual(room_renamed(same, {"x": "y"}), (
            "a", (("y", "x"),), (("x", (0,)),), (("x", ("x",), ()),), (("d", "x", 1, (
                ("store", "x", X, ("ask", "y", "x", ("run", "x", (("cell", "x", X),)))),)),)))

    def test_asks_in_asks_and_in_functions(self):
        inner = ("ask", "b", "d", ("ask", "c", "d", ("plus", ZERO, ("ask", "b", "d", ZERO))))
        source = ("a", (("b", "d"), ("c", "d")), (), (("f", (), (("give", inner),)),), (("go", "x", 1, (
            ("while", inner, (("if", inner, (("give", inner),), (("let", "b", inner),)),)),)),))
        changed = room_renamed(source, {"b": "r"})
        self.assertEqual(repr(changed), repr(source).replace("'ask', 'b'", "'ask', 'r'").replace("('b', 'd')", "('r', 'd')"))

    def test_no_room(self):
        for table in [{"b": "c"}, {"c": "b"}, {"all": "b"}, {"b": "all"}, {"b": "z", "c": "z"}, {"b": "c", "c": "c"}]:
            self.assertRaises(BadNode, room_renamed, ALL, table)
        other = ALL[:1] + ((("b", "d"), ("c", "e")),) + ALL[2:]
        self.assertEqual(room_renamed(other, {"c": "b"})[1], (("b", "d"), ("b", "e")))

    def test_bad_tables(self):
        good = {"k": "v"}
        for value in odd_values():
            if isinstance(value, dict) and all(is_name(key) and is_name(worth) for key, worth in value.items()):
                continue
            self.assertRaises(BadTable, room_renamed, ALL, value)
        self.assertEqual(room_renamed(ALL, {}), ALL)
        for table in [{"b": "B"}, {"B": "b"}, {"b": None}, {"b": "if"}, {"b": ("c",)}, {"b": ["c"]}, {True: "b"},
                      {"b": 1}, [("b", "z")], {"b": "z", "room": "y"}, {("b",): "c"}]:
            self.assertRaises(BadTable, room_renamed, ALL, table)
        room_renamed(ALL, good)
        self.assertEqual(good, {"k": "v"})


class RunsAndAsksTest(unittest.TestCase):
    def source(self):
        def run(name):
            return ("run", name, ())

        functions = (
            ("z", (), (("give", ("ask", "q", "e", ZERO)),)),
            ("m", (), (("if", ZERO, (("give", run("z")),), ()),)),
            ("a", (), (("while", ("ask", "q", "d", run("m")), ()),)),
            ("lone", (), ()),
        )
        doors = (
            ("go", "x", 1, (("give", ("plus", run("a"), run("a"))),)),
            ("to", "x", 1, (("stop",), ("give", ("ask", "p", "d", ("ask", "p", "d", run("z")))))),
            ("no", "x", 1, ()),
        )
        return ("r", (("q", "e"), ("q", "d"), ("p", "d"), ("p", "e")), (), functions, doors)

    def test_runs_of(self):
        told = {part: runs_of(self.source(), part) for part in part_names(self.source())}
        self.assertEqual(told, {"z": (), "m": ("z",), "a": ("m", "z"), "lone": (), "go": ("a", "m", "z"),
                                "to": ("z",), "no": ()})

    def test_asks_of(self):
        told = {part: asks_of(self.source(), part) for part in part_names(self.source())}
        self.assertEqual(told, {
            "z": (("q", "e"),), "m": (("q", "e"),), "a": (("q", "d"), ("q", "e")), "lone": (),
            "go": (("q", "d"), ("q", "e")), "to": (("p", "d"), ("q", "e")), "no": ()})

    def test_fact_no_function_is_in_its_own(self):
        for seed in range(60):
            for source in draw_program(seed)[1]:
                for name in part_names(source):
                    self.assertNotIn(name, runs_of(source, name))
                    self.assertLessEqual(set(asks_of(source, name)), set(source[1]))
                    for other in runs_of(source, name):
                        self.assertLessEqual(set(runs_of(source, other)), set(runs_of(source, name)))
                        self.assertLessEqual(set(asks_of(source, other)), set(asks_of(source, name)))


class NothingChangesTest(unittest.TestCase):
    def test_passed_values_stay(self):
        for value in odd_values():
            if isinstance(value, (list, dict, tuple)):
                before = repr(value)
                for call in [lambda: nodes(ALL, value), lambda: node_at(ALL, value), lambda: with_node(ALL, ("go", 2), value),
                             lambda: room_renamed(ALL, value), lambda: is_room(value), lambda: number_of((1, ()), value)]:
                    try:
                        call()
                    except OwnharmError:
                        pass
                self.assertEqual(repr(value), before)
        table = {"b": "c", "c": "b"}
        kept = copy.deepcopy(table)
        room_renamed(ALL, table)
        self.assertEqual(table, kept)


if __name__ == "__main__":
    unittest.main()
