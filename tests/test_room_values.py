"""Points [7] and [10]: what a name, a room, a program is, at each bound and one beyond it."""

import unittest

from drawn import draw_program
from odd import odd_values, nested
from ownharm.rooms import is_name, is_program, is_room

ZERO = ("number", 0)
STOP = ("stop",)
WORDS = "block depth door else function give if rest room stop uses while".split()


def room(name="m", imports=(), blocks=(), functions=(), doors=None, body=()):
    """A room; without doors told, one door with the body."""
    if doors is None:
        doors = (("go", "x", 10, body),)
    return (name, imports, blocks, functions, doors)


def give(value, **more):
    """A room whose door gives the value."""
    return room(body=(("give", value),), **more)


def chain(many):
    """An expression of many nodes one in another, the innermost one a number."""
    value = ZERO
    for _ in range(many - 1):
        value = ("ask", "b", "d", value)
    return value


BLOCK = ("k", (1, None))
FUN = ("f", ("p", "q"), ())


class NameTest(unittest.TestCase):
    def test_names(self):
        for value in ["a", "z", "a0", "abcdefgh", "a1234567", "number", "plus", "let", "store", "depths", "roo"]:
            self.assertIs(is_name(value), True, value)

    def test_no_names(self):
        signs = [chr(code) for code in range(32, 127) if not chr(code).islower() and not chr(code).isdigit()]
        wrong = ["", "abcdefghi", "0", "9a", "A", "aB", "a_b", "_a", "a b", " a", "a ", "a\n", "a.b", "\u00e9", "a\u0661"]
        for value in WORDS + wrong + ["a" + sign for sign in signs] + signs:
            self.assertIs(is_name(value), False, value)

    def test_values_of_every_kind(self):
        for value in odd_values():
            self.assertIs(is_name(value), isinstance(value, str) and value in ("x", "go", "number"))


class RoomTest(unittest.TestCase):
    def good(self, value):
        self.assertIs(is_room(value), True)
        self.assertIs(is_program((3, (value,))), not value[1])

    def bad(self, value):
        self.assertIs(is_room(value), False)
        self.assertIs(is_program((3, (value,))), False)

    def test_values_of_every_kind(self):
        for value in odd_values():
            self.assertIs(is_room(value), False)

    def test_each_place_of_a_room_with_values_of_every_kind(self):
        base = room(imports=(("b", "d"),), blocks=(BLOCK,), functions=(FUN,))
        self.good(base)
        for at in range(5):
            for value in odd_values():
                expected = (at == 0 and is_name(value)) or (1 <= at <= 3 and value == () and isinstance(value, tuple))
                self.assertIs(is_room(base[:at] + (value,) + base[at + 1:]), expected, (at, value))

    def test_as_many_items_as_a_room_has(self):
        self.bad(room() + ((),))
        self.bad(room()[:4])
        self.bad(room() + room())

    def test_lists_do_not_stand_for_tuples(self):
        base = room(imports=(("b", "d"),), blocks=(BLOCK,), functions=(FUN,), body=(
            ("let", "y", ("plus", ZERO, ("run", "f", (ZERO, ZERO)))), ("if", ZERO, (STOP,), ()), ("while", ZERO, ()),
            ("store", "k", ZERO, ("cell", "k", ZERO)), ("give", ("ask", "b", "d", ZERO))))
        self.good(base)
        self.bad(list(base))
        count = 0
        for changed in listed(base):
            count += 1
            self.bad(changed)
        self.assertGreater(count, 30)

    def test_names_of_rooms_blocks_parts_locals_params_do_not_bar_one_another(self):
        self.good(room("a", (("b", "a"),), (("a", (0,)),), (("a", ("a",), (("let", "a", ("local", "a")),)),),
                       (("b", "a", 1, (("store", "a", ("run", "a", (("local", "b"),)), ("ask", "b", "a", ZERO)),)),)))

    def test_own_name(self):
        for word in WORDS + ["", "A"]:
            self.bad(room(word))

    def test_imports(self):
        eight = tuple(("b", "d" + str(at)) for at in range(8))
        self.good(room(imports=eight))
        self.bad(room(imports=eight + (("b", "d"),)))
        self.bad(room(imports=(("b", "d"), ("b", "d"))))
        self.good(room(imports=(("b", "d"), ("c", "d"))))
        for pair in [("m", "d"), ("b",), ("b", "d", "e"), ("b", 1), (True, "d"), ("B", "d"), ("b", "if"), "bd", None]:
            self.bad(room(imports=(pair,)))

    def test_blocks(self):
        six = tuple(("b" + str(at), (0,)) for at in range(6))
        self.good(room(blocks=six))
        self.bad(room(blocks=six + (("b", (0,)),)))
        self.bad(room(blocks=(("b", (0,)), ("b", (1,)))))
        self.good(room(blocks=(("b", (0,) * 400),)))
        self.bad(room(blocks=(("b", (0,) * 401),)))
        self.bad(room(blocks=(("b", ()),)))
        self.good(room(blocks=(("b", (0, 9999, None)),)))
        for value in [10000, -1, True, False, "0", (), (0,), 10 ** 99]:
            self.bad(room(blocks=(("b", (0, value)),)))
        for value in [("b",), ("b", (0,), 0), ("B", (0,)), (1, (0,)), ("b", 0), ("b", None), "b", None]:
            self.bad(room(blocks=(value,)))

    def test_functions(self):
        six = tuple(("f" + str(at), (), ()) for at in range(6))
        self.good(room(functions=six))
        self.bad(room(functions=six + (("f", (), ()),)))
        self.bad(room(functions=(("f", (), ()), ("f", (), ()))))
        self.bad(room(functions=(("go", (), ()),)))
        self.good(room(functions=(("f", ("a", "b", "c", "d"), ()),)))
        self.bad(room(functions=(("f", ("a", "b", "c", "d", "e"), ()),)))
        self.bad(room(functions=(("f", ("a", "a"), ()),)))
        for value in [("f", ()), ("f", (), (), ()), ("f", "a", ()), ("f", (1,), ()), ("f", ("if",), ()),
                      ("F", (), ()), (None, (), ()), ("f", (), None), ("f", None, ()), ("f", (("a",),), ())]:
            self.bad(room(functions=(value,)))

    def test_doors(self):
        six = tuple(("d" + str(at), "x", 1, ()) for at in range(6))
        self.good(room(doors=six))
        self.bad(room(doors=six + (("d", "x", 1, ()),)))
        self.bad(room(doors=()))
        self.bad(room(doors=(("d", "x", 1, ()), ("d", "x", 1, ()))))
        for size in [1, 10000]:
            self.good(room(doors=(("d", "x", size, ()),)))
        for size in [0, 10001, -1, True, None, "1", (1,), 10 ** 99]:
            self.bad(room(doors=(("d", "x", size, ()),)))
        for value in [("d", "x", 1), ("d", "x", 1, (), ()), ("d", ("x",), 1, ()), ("d", None, 1, ()), ("D", "x", 1, ()),
                      ("d", "X", 1, ()), ("d", "x", 1, None), ("d", "x", 1, "")]:
            self.bad(room(doors=(value,)))

    def test_numbers_and_locals(self):
        for number in [0, 9999]:
            self.good(give(("number", number)))
        for number in [-1, 10000, True, False, None, "1", 10 ** 99]:
            self.bad(give(("number", number)))
        for name in ["x", "never", "m", "go"]:
            self.good(give(("local", name)))
        for name in ["if", "", "X", 1, None, ("x",), "abcdefghi"]:
            self.bad(give(("local", name)))

    def test_cells_stores_asks_of_what_the_room_has(self):
        self.good(give(("cell", "k", ZERO), blocks=(BLOCK,)))
        self.bad(give(("cell", "j", ZERO), blocks=(BLOCK,)))
        self.bad(give(("cell", "k", ZERO)))
        self.good(room(body=(("store", "k", ZERO, ZERO),), blocks=(BLOCK,)))
        self.bad(room(body=(("store", "j", ZERO, ZERO),), blocks=(BLOCK,)))
        self.good(give(("ask", "b", "d", ZERO), imports=(("b", "d"),)))
        for other in [("b", "e"), ("c", "d"), ("m", "go"), ("b", None), (("b", "d"), "d"), (["b"], "d")]:
            self.bad(give(("ask", other[0], other[1], ZERO), imports=(("b", "d"),)))
        self.bad(give(("cell", ["k"], ZERO), blocks=(BLOCK,)))
        self.bad(give(("cell", True, ZERO), blocks=(BLOCK,)))

    def test_runs_of_functions_ahead_alone(self):
        run_f = ("give", ("run", "f", ()))
        run_g = ("give", ("run", "g", ()))
        self.good(room(functions=(("f", (), ()), ("g", (), (run_f,)))))
        self.bad(room(functions=(("f", (), (run_g,)), ("g", (), ()))))
        self.bad(room(functions=(("f", (), (run_f,)),)))
        self.good(room(functions=(("f", (), ()), ("g", (), ())), body=(run_g,)))
        self.bad(room(functions=(("f", (), ()),), body=(("give", ("run", "go", (ZERO,))),)))
        self.bad(room(body=(run_f,)))

    def test_as_many_arguments_as_params(self):
        for many in range(5):
            params = ("a", "b", "c", "d")[:many]
            for passed in range(7):
                value = room(functions=(("f", params, ()),), body=(("give", ("run", "f", (ZERO,) * passed)),))
                self.assertIs(is_room(value), passed == many)
        for arguments in [[], None, ZERO, "", {}]:
            self.bad(give(("run", "f", arguments), functions=(("f", (), ()),)))
        for function in [["f"], ("f",), None, {"f": 0}, 0, True, "F"]:
            self.bad(give(("run", function, ()), functions=(("f", (), ()),)))

    def test_lengths_and_words_of_nodes(self):
        good = {
            "plus": (ZERO, ZERO), "minus": (ZERO, ZERO), "times": (ZERO, ZERO), "rest": (ZERO, ZERO),
            "less": (ZERO, ZERO), "same": (ZERO, ZERO), "number": (1,), "local": ("y",), "cell": ("k", ZERO),
            "run": ("f", (ZERO, ZERO)), "ask": ("b", "d", ZERO),
        }
        more = {"blocks": (BLOCK,), "functions": (FUN,), "imports": (("b", "d"),)}
        for word in [None, True, 1, ["plus"], ("plus",), {"plus": 1}, ("number", 1)]:
            self.bad(give((word, ZERO, ZERO), **more))
            self.bad(give((word,), **more))
            self.bad(room(body=((word,),)))
        for word, rest in good.items():
            self.good(give((word, *rest), **more))
            self.bad(give((word, *rest, ZERO), **more))
            self.bad(give((word, *rest[:-1]), **more))
            self.bad(give((word.upper(), *rest), **more))
            self.bad(room(body=((word, *rest),), **more))
        good = {"let": ("y", ZERO), "store": ("k", ZERO, ZERO), "if": (ZERO, (), ()), "while": (ZERO, ()),
                "give": (ZERO,), "stop": ()}
        for word, rest in good.items():
            self.good(room(body=((word, *rest),), **more))
            self.bad(room(body=((word, *rest, ()),), **more))
            self.bad(room(body=((word.upper(), *rest),), **more))
            if rest:
                self.bad(room(body=((word, *rest[:-1]),), **more))
            self.bad(give((word, *rest), **more))

    def test_values_of_every_kind_as_nodes_and_bodies(self):
        for value in odd_values():
            self.bad(give(value))
            self.bad(give(("plus", ZERO, value)))
            self.bad(room(body=(value,)))
            self.assertIs(is_room(room(body=value)), value == () and isinstance(value, tuple))
            self.assertIs(is_room(room(body=(("while", ZERO, value),))), value == () and isinstance(value, tuple))

    def test_200_nodes(self):
        self.good(room(body=(STOP,) * 200))
        self.bad(room(body=(STOP,) * 201))
        self.good(room(body=(("give", ZERO),) * 100))
        self.bad(room(body=(("give", ZERO),) * 100 + (STOP,)))
        self.good(room(functions=(("f", (), (STOP,) * 200),), body=(STOP,) * 200))
        self.bad(room(functions=(("f", (), (STOP,) * 201),), body=()))
        inner = ("if", ZERO, (STOP,) * 99, (STOP,) * 99)
        self.good(room(body=(inner,)))
        self.bad(room(body=(inner, STOP)))
        full = ("run", "f", (ZERO,) * 4)
        value = ("plus", full, ("plus", full, full))
        body = (("give", value),) * 11
        four = (("f", ("a", "b", "c", "d"), ()),)
        self.good(room(functions=four, body=body + (STOP,) * 2))
        self.bad(room(functions=four, body=body + (STOP,) * 3))

    def test_12_deep(self):
        self.good(give(chain(11), imports=(("b", "d"),)))
        self.bad(give(chain(12), imports=(("b", "d"),)))
        for form in [lambda body: ("while", ZERO, body), lambda body: ("if", ZERO, body, ()),
                     lambda body: ("if", ZERO, (), body), lambda body: ("if", ZERO, (STOP,), body)]:
            for levels in range(1, 16):
                body = (STOP,)
                for _ in range(levels - 1):
                    body = (form(body),)
                self.assertIs(is_room(room(body=body)), levels <= 12)
        body = (("give", ZERO),)
        for _ in range(10):
            body = (("while", ZERO, body),)
        self.good(room(body=body))
        self.bad(room(body=(("while", ZERO, body),)))

    def test_12_deep_for_each_kind_of_node(self):
        more = {"imports": (("b", "d"),), "blocks": (BLOCK,), "functions": (FUN,)}
        values = [lambda value: ("cell", "k", value), lambda value: ("run", "f", (value, ZERO)),
                  lambda value: ("run", "f", (ZERO, value)), lambda value: ("ask", "b", "d", value)]
        for word in ("plus", "minus", "times", "rest", "less", "same"):
            values.append(lambda value, word=word: (word, value, ZERO))
            values.append(lambda value, word=word: (word, ZERO, value))
        statements = [lambda value: ("let", "y", value), lambda value: ("give", value),
                      lambda value: ("store", "k", value, ZERO), lambda value: ("store", "k", ZERO, value),
                      lambda value: ("if", value, (), ()), lambda value: ("while", value, ())]
        for statement in statements:
            for form in values:
                value = ZERO
                for depth in range(2, 16):
                    self.assertIs(is_room(room(body=(statement(value),), **more)), depth <= 12)
                    value = form(value)
            body = (statement(ZERO),)
            for depth in range(1, 16):
                self.assertIs(is_room(room(body=body, **more)), depth <= 11)
                body = (("while", ZERO, body),)

    def test_deep_and_wide_values_are_judged(self):
        value = ZERO
        for _ in range(36):
            value = ("plus", value, value)
        self.bad(give(value))
        self.bad(room(body=(("give", nested("tuple", 35, 1)),)))
        self.bad(room(body=tuple([("stop",)] * 2000)))


def listed(value):
    """The value with one tuple in it exchanged for a list, for each of its tuples."""
    if isinstance(value, tuple):
        yield list(value)
        for at, inner in enumerate(value):
            for changed in listed(inner):
                yield value[:at] + (changed,) + value[at + 1:]


class ProgramTest(unittest.TestCase):
    def test_depth(self):
        for depth in [1, 60]:
            self.assertIs(is_program((depth, (room(),))), True)
        for depth in [0, 61, -1, True, None, "1", (1,), 10 ** 99]:
            self.assertIs(is_program((depth, (room(),))), False)

    def test_rooms(self):
        six = tuple(room("r" + str(at)) for at in range(6))
        self.assertIs(is_program((1, six)), True)
        self.assertIs(is_program((1, six + (room("r"),))), False)
        self.assertIs(is_program((1, ())), False)
        self.assertIs(is_program((1, (room("a"), room("a")))), False)
        for value in odd_values():
            self.assertIs(is_program((1, (room(), value))), False)
            self.assertIs(is_program((1, value)), False)
            self.assertIs(is_program(value), False)
        for value in [[1, (room(),)], (1, [room()]), (1, (room(),), 0), (1,), (1, room()), (1, (list(room()),))]:
            self.assertIs(is_program(value), False)

    def test_imports_name_rooms_and_doors_of_the_program(self):
        good = (room("a", (("b", "go"),)), room("b", (("a", "go"),)))
        self.assertIs(is_program((1, good)), True)
        for pair in [("b", "no"), ("c", "go"), ("go", "b"), ("b", "b")]:
            self.assertIs(is_room(room("a", (pair,))), True)
            self.assertIs(is_program((1, (room("a", (pair,)), room("b")))), False)
        # A function is no door.
        self.assertIs(is_program((1, (room("a", (("b", "f"),)), room("b", functions=(("f", (), ()),))))), False)

    def test_drawn_programs_and_their_rooms(self):
        for seed in range(100):
            program = draw_program(seed, seed % 2 == 0)
            self.assertIs(is_program(program), True)
            self.assertTrue(all(is_room(source) for source in program[1]))


if __name__ == "__main__":
    unittest.main()
