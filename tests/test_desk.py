"""Points [82] to [84]: desks."""

import random
import unittest

from drawnsections import draw_section
from harmful import draw_harmful_program
from odd import odd_values
from ownharm.bench import Bench
from ownharm.desk import Desk
from ownharm.errors import BadText, OwnharmError, TooLarge
from ownharm.rooms import face_of
from ownharm.roomtexts import program_of, program_text
from ownharm.rowtexts import row_text
from ownharm.sectiontexts import section_text
from test_bench import LARGE

TEXT = "depth 1\nroom a\n  door go x 10\n    give (x + 1)"
STORE = """depth 4
room main
  uses store.get
  door go x 10000
    give store.get(x)
room store
  block b 5
  door get i 10000
    give b[i]
"""
QUESTIONS = ["row", "state", "touched", "blames", "text", "kept"]
WORDS = ["read", "go", "write", "lay", "recompile", "begin", "settle", "keep", "back", "undo", "cell", *QUESTIONS]


def reading(text, number=3):
    desk = Desk()
    assert desk.say(f"read {number}\n{text}") == "ok"
    return desk


def answers(desk):
    return [desk.say(question) for question in QUESTIONS]


class ExampleTest(unittest.TestCase):
    def test_example(self):
        desk = Desk()
        self.assertEqual(desk.say("read 3\n" + TEXT), "ok")
        self.assertEqual((desk.say("state"), desk.say("touched")), ("running 0", "-"))
        self.assertEqual(desk.say("go 5000"), "ok")
        self.assertTrue(desk.say("state").startswith("done "))
        self.assertEqual(desk.say("blames"), "-")
        self.assertEqual([desk.say(line) for line in ["write a 4000 1", "back m", "go 1000001", "write b 0 1"]],
                         ["error badaddress", "error notkept", "error badsteps", "what"])
        self.assertEqual((desk.say("undo"), desk.say("state")), ("ok", "running 0"))

    def test_blame(self):
        desk = reading(STORE)
        self.assertEqual(desk.say("lay main\nentries 0\nset 1 1\nset 2 0\nask 1 2\ngive"), "ok")
        self.assertEqual((desk.say("go 900"), desk.say("touched")), ("ok", "main"))
        self.assertEqual(desk.say("blames"), "store get 1 2")
        self.assertTrue(desk.say("row").startswith("start 3\ncall 0 1 0 3\n"))
        self.assertEqual(desk.say("write store 0 5"), "ok")
        self.assertEqual((desk.say("touched"), desk.say("blames"), desk.say("cell store 0")), ("main store", "-", "5"))
        row = desk.say("row")
        self.assertEqual((desk.say("settle"), desk.say("touched"), desk.say("blames"), desk.say("row")), ("ok", "-", "-", row))

    def test_several_blames(self):
        desk = reading("""depth 2
room a
  uses b.d
  block n -
  door go x 10
    y = b.d(1)
    give n[y]
room b
  door d y 10
    give (3 rest 0)
""", 8)
        desk.say("go 1000")
        self.assertEqual(desk.say("blames"), "b d 1 2, a go 4 3")


class FormsTest(unittest.TestCase):
    def test_without_a_bench(self):
        for line in ["go 5", "write a 0 0", "write row 1 2", "lay a\n", "lay a\nentries 0", "recompile zz", "begin 0", "begin 10000", "settle",
                     "keep a", "back a", "undo", "row", "state", "touched", "blames", "cell a 3", "text", "kept", "go 9999999",
                     "go " + "9" * 30]:
            self.assertEqual(Desk().say(line), "empty", line)
        for line in ["write if 0 0", "write A 0 0", "lay 3a\nentries 0", "keep room", "back stop", "recompile abcdefghi", "cell a b", "go -1",
                     "go 05", "go " + "9" * 31, "go", "go 1 2", "read 3", "read x\n", "lay a", "settle\n", "what", "ok", "", " ", "empty"]:
            self.assertEqual(Desk().say(line), "what", line)

    def test_values_of_every_kind(self):
        desk = reading(TEXT)
        ahead = answers(desk)
        for value in odd_values() + [b"row", ["row"], ("row",)]:
            self.assertEqual(desk.say(value), "what")
            self.assertEqual(Desk().say(value), "what")
        self.assertEqual(answers(desk), ahead)

    def test_lines_that_have_no_form(self):
        desk = reading(STORE)
        desk.say("keep k")
        good = ["go 5", "write store 0 1", "lay store\nentries 0\nstop", "recompile store", "begin 4", "settle", "keep k", "back k", "undo", *QUESTIONS,
                "cell store 0"]
        for line in good:
            head, newline, text = line.partition("\n")
            behind = newline + text
            odd = [" " + line, head + " " + behind, head.replace(" ", "  ") + behind if " " in head else "  " + head, head.upper() + behind,
                   head + " x" + behind, head + "\t" + behind, head + "\r" + behind]
            odd += [line + "\n", line + "\n\n", "\n" + line] if not newline else [head, "\n" + line]
            words = head.split(" ")
            odd += [" ".join(words[:at] + words[at + 1:]) + behind for at in range(len(words))]
            for other in odd:
                if other == "" or other.split("\n")[0] not in good or ("\n" in other) != bool(newline):
                    ahead = answers(desk)
                    self.assertEqual(desk.say(other), "what", other)
                    self.assertEqual(answers(desk), ahead)

    def test_wholes(self):
        desk = reading(STORE)
        for word, wrong in [("go", "error badsteps"), ("begin", "error badnumber")]:
            for told in ["00", "01", "+1", "-1", "1.0", "1e3", "0x1", "1_0", "", "9" * 31, "0" * 30, "five", "\u0663"]:
                self.assertEqual(desk.say(f"{word} {told}"), "what", told)
            self.assertEqual(desk.say(f"{word} {'9' * 30}"), wrong)
        self.assertEqual(desk.say("go 1000000"), "ok")
        self.assertEqual(desk.say("go 1000001"), "error badsteps")
        self.assertEqual(desk.say("begin 9999"), "ok")
        self.assertEqual(desk.say("begin 10000"), "error badnumber")
        self.assertEqual(desk.say("write store 0 10000"), "error badnumber")
        # The address comes first.
        self.assertEqual(desk.say(f"write store {'9' * 30} {'9' * 30}"), "error badaddress")
        self.assertEqual(desk.say("cell store " + "9" * 30), "error badaddress")
        self.assertEqual(desk.say("cell store " + "9" * 31), "what")

    def test_names(self):
        desk = reading(STORE)
        for line in ["write stor 0 0", "write Store 0 0", "write 1 0 0", "lay b\nentries 0\nstop", "recompile main1", "cell get 0", "keep if",
                     "keep 1a", "keep abcdefghi", "keep A", "back room", "back -"]:
            self.assertEqual(desk.say(line), "what", line)
        self.assertEqual([desk.say(line) for line in ["keep store", "keep abcdefgh", "back store", "back other"]], ["ok", "ok", "ok", "error notkept"])
        self.assertEqual(desk.say("kept"), "abcdefgh store")

    def test_words_of_the_desk_as_names(self):
        text = "depth 2\n" + "\n".join(f"room {word}\n  door go x 10\n    give x" for word in ["row", "undo", "lay", "cell", "read", "keep"])
        desk = reading(text)
        for word in ["row", "undo", "lay", "cell", "read", "keep"]:
            self.assertEqual(desk.say(f"write {word} 0 9005"), "ok")
            self.assertEqual(desk.say(f"cell {word} 0"), "9005")
        self.assertEqual(desk.say("touched"), "row undo lay cell read keep")
        self.assertEqual(desk.say("lay lay\nentries 0\nstop"), "ok")
        self.assertEqual(desk.say("touched"), "lay")
        self.assertEqual(desk.say("recompile lay"), "ok")
        # The word recompile has a letter too many for a name.
        names = [word for word in WORDS if len(word) <= 8]
        for word in WORDS:
            told = "ok" if word in names else "what"
            self.assertEqual((desk.say("keep " + word), desk.say("back " + word)), (told, told))
        self.assertEqual(desk.say("kept"), " ".join(sorted(names)))


class ReadTest(unittest.TestCase):
    def test_errors_of_the_text_come_first(self):
        for text in ["", "depth", "depth 1\nroom a\n  door go x 10\n    give (x + )", "dept 1", TEXT + "\n    y[0] = 1", "\n\n"]:
            with self.assertRaises(BadText) as caught:
                program_of(text)
            told = f"error badtext {caught.exception.line} {caught.exception.column}"
            for number in ["0", "3", "10000", "9" * 30]:
                self.assertEqual(Desk().say(f"read {number}\n{text}"), told)
        self.assertEqual(Desk().say("read 10000\n" + TEXT), "error badnumber")
        large = program_text((60, (LARGE,)))
        self.assertEqual(Desk().say("read 10000\n" + large), "error badnumber")
        self.assertEqual(Desk().say("read 1\n" + large), "error toolarge")

    def test_behind_an_error_the_one_there_stays(self):
        desk = reading(STORE)
        desk.say("go 40")
        ahead = answers(desk)
        for line in ["read 3\n", "read 10000\n" + TEXT, "read 1\n" + program_text((60, (LARGE,))), "read 3", "read 03\n" + TEXT, "read 3 \n" + TEXT]:
            self.assertIn(desk.say(line).split(" ")[0], ["error", "what"])
            self.assertEqual(answers(desk), ahead)
        self.assertEqual(desk.say("read 9\n" + TEXT), "ok")
        self.assertEqual(answers(desk), answers(reading(TEXT, 9)))
        self.assertEqual((desk.say("undo"), desk.say("write store 0 0")), ("error nothingdone", "what"))

    def test_texts_with_remarks(self):
        self.assertEqual(reading("# a remark\n\n" + TEXT + "\n").say("text"), TEXT)


class LayTest(unittest.TestCase):
    def test_errors(self):
        desk = reading(STORE)
        ahead = answers(desk)
        for text, told in [("", "error badsectiontext"), ("entries 0", "error badsectiontext"), ("stop", "error badsectiontext"),
                           ("entries 0\nstopp", "error badsectiontext"), ("entries 0 0\nstop", "error badsection")]:
            self.assertEqual(desk.say("lay store\n" + text), told)
            self.assertEqual(answers(desk), ahead)
        self.assertEqual(desk.say("recompile store"), "error notlaid")
        self.assertEqual(desk.say("lay store\n# a remark\n\nentries 0\nset 0 77\ngive\n"), "ok")
        desk.say("go 100")
        self.assertEqual(desk.say("row"), "start 3\ncall 0 1 0 3\nback 1 0 77\ndone 77")
        self.assertEqual([desk.say(f"cell store {at}") for at in range(4)], ["1000", "77", "9005", "error badaddress"])
        self.assertEqual((desk.say("recompile store"), desk.say("recompile store")), ("ok", "error notlaid"))


class ErrorsTest(unittest.TestCase):
    def test_nothing_done_and_nothing_changed(self):
        desk = reading(STORE)
        ahead = answers(desk)
        for line, told in [("undo", "nothingdone"), ("back k", "notkept"), ("recompile main", "notlaid"), ("go 1000001", "badsteps"),
                           ("begin 10000", "badnumber"), ("write main 4000 1", "badaddress"), ("write main 0 10000", "badnumber"),
                           ("lay main\n", "badsectiontext"), ("lay main\nentries 0 1\nstop", "badsection"), ("cell main 4000", "badaddress")]:
            self.assertEqual(desk.say(line), "error " + told)
            self.assertEqual(answers(desk), ahead)
            self.assertEqual(desk.say("undo"), "error nothingdone")

    def test_too_many_and_too_long(self):
        desk = reading("depth 1\nroom a\n  uses b.d\n  door go x 1\n    while 1\n      y = b.d(3)\nroom b\n  door d y 10\n    give y")
        desk.say("write b 0 " + desk.say("cell b 0"))
        desk.say("go 70000")
        self.assertEqual((desk.say("blames"), desk.say("settle")), ("error toomany", "error toomany"))
        slow = reading("depth 1\nroom a\n  door go x 10\n    i = 1\n    while i\n      j = 99\n      while j\n        j = (j - 1)\n"
                       "      i = (i + 1)\n    give 7")
        while slow.say("state").startswith("running"):
            slow.say("go 1000000")
        self.assertEqual((slow.say("blames"), slow.say("settle")), ("error toolong", "error toolong"))
        self.assertEqual(slow.say("undo"), "ok")


class BesideABenchTest(unittest.TestCase):
    def draw_line(self, rng, program, cells):
        names = [source[0] for source in program[1]]
        room = rng.randrange(len(names))
        _, wires, doors = face_of(program)
        return rng.choice([
            ("go", rng.choice([0, 3, 50, 400])), ("go", rng.choice([5, 1000001])), ("write", room, rng.randrange(cells[room] + 3), rng.randrange(10010)),
            ("lay", room, draw_section(rng, wires[room], doors[rng.randrange(len(doors))])), ("recompile", room), ("begin", rng.choice([0, 3, 10000])),
            ("settle",), ("keep", rng.choice(["a", "row"])), ("back", rng.choice(["a", "row", "z"])), ("undo",),
        ])

    def line_of(self, deed, names):
        if deed[0] == "lay":
            return f"lay {names[deed[1]]}\n{section_text(deed[2])}"
        told = [names[deed[1]], *deed[2:]] if deed[0] in ("write", "recompile") else deed[1:]
        return " ".join([deed[0], *[str(one) for one in told]])

    def compare(self, desk, bench, rng):
        names = [source[0] for source in bench.program[1]]
        self.assertEqual(desk.say("row"), row_text(bench.row))
        self.assertEqual(desk.say("state"), f"{bench.state} {bench.steps}")
        self.assertEqual(desk.say("touched"), " ".join(names[room] for room in bench.touched) or "-")
        self.assertEqual(desk.say("text"), program_text(bench.program))
        self.assertEqual(desk.say("kept"), " ".join(bench.kept) or "-")
        room = rng.randrange(len(names))
        at = rng.randrange(len(bench.cells(room)))
        self.assertEqual(desk.say(f"cell {names[room]} {at}"), str(bench.cells(room)[at]))
        self.assertEqual(desk.say(f"cell {names[room]} {len(bench.cells(room))}"), "error badaddress")
        try:
            told = ", ".join(f"{names[room]} {place[0]} {place[1]} {at}" for room, place, at in bench.blames()) or "-"
        except OwnharmError as error:
            told = "error " + type(error).__name__.lower()
        self.assertEqual(desk.say("blames"), told)

    def test_drawn_lines(self):
        said = wrong = 0
        for seed in range(30):
            rng = random.Random(seed)
            program = draw_harmful_program(rng)
            desk = Desk()
            answer = desk.say(f"read 3\n{program_text(program)}")
            try:
                bench = Bench(program, 3)
            except TooLarge:
                self.assertEqual(answer, "error toolarge")
                continue
            lines = []
            for _ in range(20):
                names = [source[0] for source in bench.program[1]]
                deed = self.draw_line(rng, bench.program, [len(bench.cells(room)) for room in range(len(names))])
                line = self.line_of(deed, names)
                try:
                    getattr(bench, deed[0])(*deed[1:])
                    told = "ok"
                    lines = lines[:-1] if deed[0] == "undo" else lines + [line]
                except OwnharmError as error:
                    told = "error " + type(error).__name__.lower()
                    wrong += 1
                self.assertEqual(desk.say(line), told)
                self.compare(desk, bench, rng)
                said += 1
            # A desk to which only the deeds that stand are said answers all questions alike.
            fresh = Desk()
            fresh.say(f"read 3\n{program_text(program)}")
            for line in lines:
                self.assertEqual(fresh.say(line), "ok")
            self.assertEqual(answers(fresh), answers(desk))
            self.compare(fresh, bench, rng)
        self.assertGreater(said, 400)
        self.assertGreater(wrong, 50)

    def test_desks_are_apart(self):
        one, other = reading(STORE), reading(STORE)
        one.say("go 100")
        self.assertEqual((other.say("state"), other.say("undo")), ("running 0", "error nothingdone"))
        with self.assertRaises(TypeError):
            iter(one)
        self.assertFalse(one == other)


if __name__ == "__main__":
    unittest.main()
