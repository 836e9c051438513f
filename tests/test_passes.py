"""Points [47] to [51]: papers, and those that make rooms shorter."""

import random
import unittest

from busyrooms import busy_program, draw_busy_room
from odd import odd_values
from ownharm.boards import board_of
from ownharm.changes import changed, changes_of, is_change
from ownharm.errors import BadChange, BadPlace, BadRoom, TooLarge
from ownharm.passes import along, improved, inlining, is_paper, loads, shortened
from ownharm.rooms import is_room, nodes, part_names
from ownharm.roomtexts import program_of, room_text
from plainchanges import inlined, list_ways, locals_of, parts
from promise import PromiseCheck

SHORT = ("fold", "unit", "branch", "cut", "drop", "over")
SOURCE = program_of("""depth 1
room r
  block b 1 2
  function plus1 p
    q = (p + (0 + 1))
    give q
  function twice p
    y = plus1(p)
    give (y * 2)
  function turns p
    while p
      p = (p - 1)
  door go x 100
    y = ((2 * 3) + (x * 1))
    if (1 < 2)
      b[0] = y
      b[0] = (y + 0)
    else
      stop
    z = plus1((y - 0))
    w = twice(z)
    v = turns(x)
    t1 = b[0]
    give ((b[0] + w) + z)
    stop
""")[1][0]


def drawn_rooms(many, most=30):
    for seed in range(many):
        rng = random.Random(seed)
        yield rng, draw_busy_room(rng, most)


def short_changes(source):
    return [change for change in changes_of(source) if change[0] in SHORT]


def lets_of_runs(source):
    """The places of the lets of what a function gives, with the name of it."""
    return [((part, at), node[2][1]) for part in part_names(source) for at, node in enumerate(nodes(source, part))
            if node[0] == "let" and node[2][0] == "run"]


class PaperTest(unittest.TestCase):
    PAPER = [("fold", "go", 2), ("unit", "go", 3), ("fold", "go", 5), ("branch", "go", 4)]

    def test_papers(self):
        for many in range(5):
            self.assertIs(is_paper(SOURCE, self.PAPER[:many]), True)
            self.assertIs(is_paper(SOURCE, tuple(self.PAPER[:many])), True)
            rooms = along(SOURCE, self.PAPER[:many])
            self.assertIsInstance(rooms, list)
            self.assertEqual((len(rooms), rooms[0]), (many + 1, SOURCE))
            for at in range(many):
                self.assertEqual(rooms[at + 1], changed(rooms[at], self.PAPER[at]))
            self.assertEqual(along(SOURCE, tuple(self.PAPER[:many])), rooms)
        self.assertIs(is_paper(thing=[], source=SOURCE), True)
        self.assertEqual(along(paper=(), source=SOURCE), [SOURCE])

    def test_a_change_of_the_room_behind_those_ahead(self):
        # The unit stands at 3 only behind the fold, the second fold at 5 only behind both.
        self.assertIs(is_paper(SOURCE, self.PAPER[1:]), False)
        self.assertIs(is_paper(SOURCE, [self.PAPER[0], self.PAPER[0]]), False)
        self.check_bad([self.PAPER[0], self.PAPER[0]], 1)
        self.check_bad(self.PAPER[1:], 0)
        self.check_bad([self.PAPER[0], self.PAPER[2], self.PAPER[1]], 1)

    def check_bad(self, paper, at):
        self.assertIs(is_paper(SOURCE, paper), False)
        with self.assertRaises(BadChange) as caught:
            along(SOURCE, paper)
        self.assertEqual(caught.exception.at, at)

    def test_wrong_at_each_place(self):
        for value in odd_values() + [("fold", "go", 0), ("fold", "go", True), ["fold", "go", 2]]:
            for at in range(5):
                self.check_bad(self.PAPER[:at] + [value] + self.PAPER[at:], at)
                self.check_bad(tuple(self.PAPER[:at]) + (value,), at)
            if isinstance(value, (list, tuple)):
                if len(value):
                    self.check_bad(value, 0)
            else:
                self.check_bad(value, None)

    def test_bad_rooms(self):
        for value in odd_values():
            for told in [shortened, loads, improved]:
                self.assertRaises(BadRoom, told, value)
            for told in [is_paper, along, inlining]:
                self.assertRaises(BadRoom, told, value, None)

    def test_drawn_papers_with_one_wrong_change(self):
        for rng, source in drawn_rooms(40, 15):
            paper, room = [], source
            for _ in range(5):
                told = changes_of(room)
                if told:
                    paper.append(rng.choice(told))
                    room = changed(room, paper[-1])
            self.assertTrue(is_paper(source, paper))
            self.assertEqual(along(source, paper)[-1], room)
            for at in range(len(paper) + 1):
                wrong = paper[:at] + [("cut", "none", 0)] + paper[at:]
                self.assertFalse(is_paper(source, wrong))
                with self.assertRaises(BadChange) as caught:
                    along(source, wrong)
                self.assertEqual(caught.exception.at, at)


class ShortenedTest(unittest.TestCase):
    def test_ordinary(self):
        paper = shortened(SOURCE)
        self.assertIsInstance(paper, list)
        self.assertTrue(all(change[0] in SHORT for change in paper))
        behind = along(SOURCE, paper)[-1]
        self.assertEqual(room_text(behind), """room r
  block b 1 2
  function plus1 p
    q = (p + 1)
    give q
  function twice p
    y = plus1(p)
    give (y * 2)
  function turns p
    while p
      p = (p - 1)
  door go x 100
    y = (6 + x)
    b[0] = y
    z = plus1(y)
    w = twice(z)
    v = turns(x)
    give ((b[0] + w) + z)""")
        self.assertEqual(shortened(source=behind), [])

    def test_drawn_rooms(self):
        many = 0
        for _, source in drawn_rooms(120):
            paper = shortened(source)
            self.assertTrue(is_paper(source, paper))
            self.assertTrue(all(change[0] in SHORT for change in paper))
            self.assertEqual(short_changes(along(source, paper)[-1]), [])
            self.assertEqual(shortened(source), paper)
            many += len(paper)
        self.assertGreater(many, 500)

    def test_any_sequence_ends_at_the_same_room(self):
        for rng, source in drawn_rooms(60):
            end = along(source, shortened(source))[-1]
            for _ in range(3):
                room = source
                told = short_changes(room)
                while told:
                    room = changed(room, rng.choice(told))
                    told = short_changes(room)
                self.assertEqual(room, end)

    def test_the_longest_room(self):
        value = ("number", 1)
        for _ in range(9):
            value = ("plus", value, ("number", 0))
        body = (("let", "y", value), ("let", "z", ("local", "y"))) * 9 + (("stop",),)
        doors = tuple((f"d{k}", "x", 9, body) for k in range(6))
        source = ("r", (), (), tuple((f"f{k}", (), body) for k in range(6)), doors)
        self.assertTrue(is_room(source))
        behind = along(source, shortened(source))[-1]
        self.assertEqual(behind, ("r", (), (), tuple((f"f{k}", (), (("stop",),)) for k in range(6)),
                                  tuple((f"d{k}", "x", 9, (("stop",),)) for k in range(6))))


class LoadsTest(unittest.TestCase):
    def test_ordinary(self):
        self.assertEqual(loads(SOURCE), [("load", "go", len(nodes(SOURCE, "go")) - 5, "t1")])
        self.assertEqual(loads(source=("r", (), (), (), (("d", "x", 1, ()),))), [])

    def test_drawn_rooms(self):
        many = 0
        for _, source in drawn_rooms(150):
            paper = loads(source)
            self.assertIsInstance(paper, list)
            self.assertTrue(is_paper(source, paper))
            self.assertTrue(all(change[0] == "load" for change in paper))
            behind = along(source, paper)[-1]
            self.assertEqual([change for change in changes_of(behind) if change[0] == "load"], [])
            self.assertEqual(loads(behind), [])
            many += len(paper)
        self.assertGreater(many, 30)


class InliningTest(unittest.TestCase):
    def test_ordinary(self):
        told = [place for place, _ in lets_of_runs(SOURCE)]
        self.assertEqual([part for part, _ in told], ["twice", "go", "go", "go"])
        # plus1 has two locals, twice two, turns one; go has a local t1 already.
        self.assertEqual([inlining(SOURCE, place) for place in told], [
            ("inline", *told[0], ("t0", "t1")), ("inline", *told[1], ("t0", "t2")), ("inline", *told[2], ("t0", "t2")),
            ("inline", *told[3], ("t0",))])
        self.assertTrue(all(is_change(SOURCE, inlining(place=place, source=SOURCE)) for place in told))
        for part in part_names(SOURCE):
            for at in range(len(nodes(SOURCE, part))):
                self.assertEqual(inlining(SOURCE, (part, at)) is not None, (part, at) in told)

    def test_names_that_are_locals_already(self):
        source = ("r", (), (), (("f", ("t0", "t1"), (("let", "t2", ("local", "t3")), ("give", ("number", 1)))),), (
            ("d", "t1", 9, (("let", "t3", ("run", "f", (("number", 1), ("local", "t4")))), ("give", ("local", "t10")))),))
        self.assertTrue(is_room(source))
        self.assertEqual(inlining(source, ("d", 0)), ("inline", "d", 0, ("t0", "t2", "t5", "t6")))

    def test_none(self):
        source = program_of("""depth 1
room r
  block b 1
  function early p
    if p
      give 1
    give 2
  function fine p
    give p
  function none
  door d x 9
    y = early(1)
    y = (fine(1) + 0)
    b[0] = fine(1)
    give fine(1)
  door e x 9
    y = none()
    y = fine(1)
""")[1][0]
        for at in range(len(nodes(source, "d"))):
            self.assertIsNone(inlining(source, ("d", at)))
        self.assertEqual(inlining(source, ("e", 0)), ("inline", "e", 0, ()))
        self.assertEqual(inlining(source, ("e", 2)), ("inline", "e", 2, ("t0",)))
        self.assertEqual([inlining(source, ("e", at)) for at in (1, 3, 4)], [None] * 3)

    def test_too_long_or_too_deep(self):
        for many, fine in [(97, True), (98, False)]:
            source = ("r", (), (), (("f", ("p",), (("stop",),) * 100),), (
                ("d", "x", 9, (("let", "y", ("run", "f", (("number", 1),))),) + (("stop",),) * (many - 1)),))
            self.assertTrue(is_room(source))
            self.assertEqual(inlining(source, ("d", 0)), ("inline", "d", 0, ("t0",)) if fine else None)
        deep = ("let", "a", ("number", 1))
        for _ in range(4):
            deep = ("while", ("number", 1), (deep,))
        for depth in range(1, 11):
            call = ("let", "y", ("run", "f", ()))
            for _ in range(depth - 1):
                call = ("while", ("number", 1), (call,))
            source = ("r", (), (), (("f", (), (deep,)),), (("d", "x", 9, (call,)),))
            told = inlining(source, ("d", 2 * (depth - 1)))
            self.assertEqual(told, ("inline", "d", 2 * (depth - 1), ("t0",)) if depth <= 7 else None)

    def test_drawn_rooms(self):
        for _, source in drawn_rooms(60):
            for name, part in parts(source).items():
                for at, (_, node) in enumerate(list_ways(part[-1])):
                    names, known = [], locals_of(part)
                    if node[0] == "let" and node[2][0] == "run":
                        fresh = (f"t{k}" for k in range(100) if f"t{k}" not in known)
                        names = [next(fresh) for _ in locals_of(parts(source)[node[2][1]])]
                    behind = inlined(source, name, at, tuple(names))
                    change = inlining(source, (name, at))
                    if behind is None:
                        self.assertIsNone(change)
                    else:
                        self.assertEqual(change, ("inline", name, at, tuple(names)))
                        self.assertEqual(changed(source, change), behind)

    def test_bad_places(self):
        many = len(nodes(SOURCE, "go"))
        for value in odd_values() + [("go", many), ("go", -1), ("go", True), ["go", 0], ("no", 0), ("go", 0, 0)]:
            if value != ("go", 0):
                self.assertRaises(BadPlace, inlining, SOURCE, value)


class ImprovedTest(unittest.TestCase):
    def check_end(self, room):
        self.assertEqual(short_changes(room), [])
        for place, name in lets_of_runs(room):
            body = nodes(room, name)
            if not any(node[0] in ("while", "run") for node in body):
                self.assertIsNone(inlining(room, place))

    def test_ordinary(self):
        behind = along(SOURCE, improved(source=SOURCE))[-1]
        self.check_end(behind)
        self.assertEqual([name for _, name in lets_of_runs(behind)], ["turns"])

    def test_drawn_rooms(self):
        inlinings = 0
        for _, source in drawn_rooms(100):
            paper = improved(source)
            self.assertIsInstance(paper, list)
            self.assertTrue(is_paper(source, paper))
            self.check_end(along(source, paper)[-1])
            self.assertEqual(improved(source), paper)
            inlinings += len([change for change in paper if change[0] == "inline"])
        self.assertGreater(inlinings, 40)

    def test_nothing_to_do(self):
        source = ("r", (), (), (), (("d", "x", 1, (("give", ("local", "x")),)),))
        self.assertEqual((improved(source), shortened(source), loads(source)), ([], [], []))


class PromiseTest(unittest.TestCase):
    def test_behind_papers(self):
        for rng, source in drawn_rooms(60, 25):
            program = busy_program(source)
            for told in [shortened, loads, improved]:
                other = busy_program(along(source, told(source))[-1])
                check = PromiseCheck(self, program, other, False)
                for _ in range(3):
                    check.alone(rng, 12)
                boards = None
                try:
                    boards = (board_of(program), board_of(other))
                except TooLarge:
                    pass
                check.rows(rng.randrange(5), boards)


if __name__ == "__main__":
    unittest.main()
