"""Point [16]: for each kind of token the line and the column of the first one that cannot stand.

In the texts here @ marks that place; it is taken out before the text is read.
"""

import unittest

from ownharm.errors import BadText
from ownharm.rooms import is_program
from ownharm.roomtexts import program_of, program_text

WORDS = "block depth door else function give if rest room stop uses while".split()


def place_of(marked):
    """The text without its mark, and the line and column of the mark."""
    ahead, mark, _ = marked.partition("@")
    assert mark, marked
    return marked.replace("@", ""), (ahead.count("\n") + 1, len(ahead) - ahead.rfind("\n"))


class ReadTest(unittest.TestCase):
    def wrong(self, marked):
        text, place = place_of(marked)
        self.wrong_at(text, place)

    def wrong_at(self, text, place):
        with self.assertRaises(BadText, msg=text) as caught:
            program_of(text)
        self.assertEqual((caught.exception.line, caught.exception.column), place, text)

    def wrong_at_end(self, text):
        """Wrong at the end of the text, however it ends."""
        for more in ["", "\n", "\n\n  \n", "# remark", "\n   # remark\n#"]:
            self.wrong_at(text + more, ((text + more).count("\n") + 2, 1))

    def good(self, text):
        program = program_of(text)
        self.assertTrue(is_program(program))
        self.assertEqual(program_of(program_text(program)), program)
        return program


class HeadTest(ReadTest):
    def test_depth(self):
        self.wrong_at_end("")
        self.wrong_at_end("depth 1")
        for first in ["room a", "1", "Depth 1", "depths 1", " depth 1", "(", "-", ".", "_", "\tdepth 1", "block", "\r"]:
            blanks = len(first) - len(first.lstrip(" "))
            self.wrong(" " * blanks + "@" + first.lstrip(" ") + "\nroom a\n  door d x 1")
        for size in ["0", "61", "01", "00", "-1", "1a", "a", "x1", "", "1" * 5000, "60000", "I"]:
            self.wrong(f"depth @{size}\nroom a\n  door d x 1" if size else "depth@\nroom a\n  door d x 1")
        for size in ["1", "60"]:
            self.good(f"depth {size}\nroom a\n  door d x 1")
        self.wrong("depth 1 @2\nroom a\n  door d x 1")
        self.wrong("depth 1@.\nroom a\n  door d x 1")
        self.wrong("depth 1\n@depth 1\nroom a\n  door d x 1")
        self.wrong("\n  # x\ndepth@   # 3\nroom a\n  door d x 1")
        self.wrong("@depth1")

    def test_rooms(self):
        self.wrong_at_end("depth 1\nroom a")
        self.wrong("depth 1\n @room a")
        self.wrong("depth 1\n  @door d x 1")
        self.wrong("depth 1\nroom@\n  door d x 1")
        self.wrong("depth 1\nroom a @b\n  door d x 1")
        self.wrong("depth 1\nroom a\n@room b\n  door d x 1")
        self.wrong("depth 1\nroom a\n  door d x 1\nroom @a\n  door d x 1")
        self.wrong("depth 1\nroom a\n  door d x 1\n@rooms b\n  door d x 1")
        self.wrong("depth 1\nroom a\n  door d x 1\n@door b x 1")
        self.wrong("depth 1\nroom a\n  door d x 1\n  @room b\n  door d x 1")
        self.wrong("depth 1\nroom a\n  door d x 1\n    give 0\n  @room b\n  door d x 1")
        self.wrong("depth 1\nroom a\n  function f\n@room b\n  door d x 1")
        six = "depth 1" + "".join(f"\nroom r{at}\n  door d x 1" for at in range(6))
        self.good(six)
        self.wrong(six + "\n@room r\n  door d x 1")
        self.wrong(six + "\n@room r1")
        self.wrong(six[:-len("\n  door d x 1")] + "\n@room r")
        self.wrong_at_end(six[:-len("\n  door d x 1")])

    def test_names(self):
        forms = ["depth 1\nroom {}\n  door d x 1", "depth 1\nroom a\n  uses {}.d\n  door d x 1",
                 "depth 1\nroom a\n  uses b.{}\n  door d x 1", "depth 1\nroom a\n  block {} 1\n  door d x 1",
                 "depth 1\nroom a\n  function {}\n  door d x 1", "depth 1\nroom a\n  function f {}\n  door d x 1",
                 "depth 1\nroom a\n  function f p {} q\n  door d x 1", "depth 1\nroom a\n  door {} x 1",
                 "depth 1\nroom a\n  door d {} 1", "depth 1\nroom a\n  door d x 1\n    {} = 1",
                 "depth 1\nroom a\n  door d x 1\n    y = {}", "depth 1\nroom a\n  door d x 1\n    y = (x + {})"]
        wrong = WORDS + ["A", "aB", "a_b", "_", "abcdefghi", "1a", "x" * 5000, "(x)", ")", "-", "\u00e9", "'x'"]
        for form in forms:
            for word in wrong:
                ahead = form[:form.index("{}")]
                # Where a statement or a value can stand, some of these begin one.
                if ahead.endswith("    ") and word in ("give", "if", "stop", "while"):
                    continue
                if "= " in ahead and word == "(x)":
                    continue
                self.wrong(form.format("@" + word))
        for form in forms[3:]:
            for word in ["a", "abcdefgh", "z0123456", "number", "let", "store", "a1"]:
                self.good(form.format(word))

    def test_uses(self):
        def told(uses, doors="d", own="a"):
            others = "".join(f"\n  door {door} x 1" for door in doors.split())
            return f"depth 1\nroom {own}\n  {uses}\n  door d x 1\nroom b\n  door no x 1{others}\nroom c\n  door d x 1"

        self.good(told("uses b.d"))
        self.good(told("uses b.d c.d b.no"))
        self.wrong(told("uses@"))
        self.wrong(told("uses @.d"))
        self.wrong(told("uses b@"))
        self.wrong(told("uses b @d"))
        self.wrong(told("uses b.@"))
        self.wrong(told("uses b.d@.d"))
        self.wrong(told("uses b.d @1"))
        self.wrong(told("uses b.d @, c.d"))
        self.wrong(told("uses b.d b.@d"))
        self.wrong(told("uses b.d c.d b.no b.@no c.d"))
        self.wrong(told("uses @a.d"))
        self.wrong(told("uses b.d @a.x"))
        self.wrong(told("@Uses b.d"))
        self.wrong(told("uses b.d\n  @uses c.d"))
        self.wrong(told("block k 1\n  @uses c.d"))
        self.wrong(told("function f\n  @uses c.d"))
        self.wrong(told("function f\n    stop\n  @uses c.d"))
        self.wrong("depth 1\nroom a\n  door d x 1\n  @uses b.d\nroom b\n  door d x 1")
        eight = "uses b.d b.d1 b.d2 b.d3 b.d4 c.d b.no"
        more = "\nroom e\n  door d x 1"
        self.good(told(eight + " e.d", "d d1 d2 d3 d4") + more)
        self.wrong(told(eight + " e.d @e.x", "d d1 d2 d3 d4") + more)
        self.wrong(told(eight + " e.d @e.d", "d d1 d2 d3 d4") + more)
        self.wrong(told(eight + " e.d @1", "d d1 d2 d3 d4") + more)

    def test_imports_that_name_nothing(self):
        self.wrong("depth 1\nroom a\n  uses @b.d\n  door d x 1")
        self.wrong("depth 1\nroom a\n  uses b.d @b.e\n  door d x 1\nroom b\n  door d x 1")
        self.wrong("depth 1\nroom a\n  uses b.d @c.d e.d\n  door d x 1\nroom b\n  uses q.q\n  door d x 1")
        self.wrong("depth 1\nroom a\n  uses b  .  d   @b  .  e\n  door d x 1\nroom b\n  door d x 1")
        # A function is no door.
        self.wrong("depth 1\nroom a\n  uses @b.f\n  door d x 1\nroom b\n  function f\n  door d x 1")
        # Only if every token can stand.
        self.wrong("depth 1\nroom a\n  uses c.c\n  door d x 1\nroom b\n  door d x @0")
        self.wrong_at_end("depth 1\nroom a\n  uses c.c\n  door d x 1\nroom b")
        self.wrong("depth 1\nroom a\n  uses b.d\n  door d x 1\nroom b\n  uses a.d @a.x\n  door d x 1")
        self.wrong("depth 1\nroom a\n  uses @b.d\n  door d x 1\n    give b.d(0)")

    def test_blocks(self):
        def told(line):
            return f"depth 1\nroom a\n  {line}\n  door d x 1"

        self.good(told("block b 0 9999 - 5"))
        self.wrong(told("block@"))
        self.wrong(told("block b@"))
        self.wrong(told("block @1 2"))
        self.wrong(told("block @- 2"))
        for value in ["10000", "00", "01", "x", "1x", "+", ".", "10000000", "9" * 5000, "A"]:
            self.wrong(told(f"block b 1 @{value}"))
            self.wrong(told(f"block b @{value} 1"))
        self.good(told("block b" + " 1" * 400))
        self.wrong(told("block b" + " 1" * 400 + " @1"))
        self.wrong(told("block b" + " -" * 400 + " @-"))
        self.wrong(told("block b" + " -" * 400 + " @x"))
        self.wrong(told("block b 1\n  block @b 2"))
        self.wrong(told("block b 1\n  block c 2\n  block @b 2"))
        six = "\n  ".join(f"block b{at} 1" for at in range(6))
        self.good(told(six))
        self.wrong(told(six + "\n  @block c 1"))
        self.wrong(told("function f\n  @block b 1"))
        self.wrong("depth 1\nroom a\n  door d x 1\n  @block b 1")
        self.wrong("depth 1\nroom a\n  block b 1\n    @give 0\n  door d x 1")
        self.wrong("depth 1\nroom a\n  block b 1\n@block c 1\n  door d x 1")

    def test_functions(self):
        def told(line):
            return f"depth 1\nroom a\n  {line}\n  door d x 1"

        self.good(told("function f"))
        self.good(told("function f a b c d"))
        self.wrong(told("function@"))
        self.wrong(told("function f a b c d @e"))
        self.wrong(told("function f a b c d @1"))
        self.wrong(told("function f a b @a"))
        self.wrong(told("function f a @1"))
        self.wrong(told("function f@, a"))
        self.wrong(told("function f@(a)"))
        self.wrong(told("function f\n  function @f"))
        self.wrong(told("function f f\n    f = f\n  function g\n  function @f"))
        six = "\n  ".join(f"function f{at}" for at in range(6))
        self.good(told(six))
        self.wrong(told(six + "\n  @function g"))
        self.wrong("depth 1\nroom a\n  door d x 1\n  @function f")
        self.wrong("depth 1\nroom a\n  door d x 1\n    stop\n  @function f")

    def test_doors(self):
        def told(line):
            return f"depth 1\nroom a\n  function f\n  {line}"

        self.good(told("door d d 1"))
        self.wrong(told("door@"))
        self.wrong(told("door d@"))
        self.wrong(told("door d x@"))
        self.wrong(told("door d x 1 @1"))
        self.wrong(told("door @f x 1"))
        self.wrong(told("door d x 1\n  door e x 1\n  door @d x 1"))
        for size in ["0", "10001", "01", "00", "x", "1x", "-", "9" * 5000, "100000"]:
            self.wrong(told(f"door d x @{size}"))
        for size in ["1", "10000"]:
            self.good(told(f"door d x {size}"))
        six = "\n  ".join(f"door d{at} x 1" for at in range(6))
        self.good(told(six))
        self.wrong(told(six + "\n  @door e x 1"))
        self.wrong(told(six + "\n  @door d1 x 1"))
        self.wrong_at_end("depth 1\nroom a\n  function f\n    stop")
        self.wrong_at_end("depth 1\nroom a\n  block b 1")

    def test_words_in_the_place_of_heads(self):
        for word in ["a", "blocks", "Door", "1", "(", "stop", "give", "else", "depth", "room", "rest", "-"]:
            self.wrong(f"depth 1\nroom a\n  @{word} b 1\n  door d x 1")
            self.wrong(f"depth 1\nroom a\n  door d x 1\n  @{word} b 1")
        for word in ["a", "uses", "1", "(", "stop", "else"]:
            self.wrong(f"depth 1\nroom a\n  door d x 1\n@{word}")


HEAD = """depth 3
room a
  uses b.d b.e c.d
  block k 1 -
  function f
  function g p
    give f()
  function h p q
    {inner}
  door go x 10
    {body}
  door to x 10
room b
  door d x 1
  door e x 1
room c
  door d x 1
  door e x 1"""


class BodyTest(ReadTest):
    def body(self, body, inner="stop"):
        return HEAD.format(body=body.replace("\n", "\n    "), inner=inner)

    def value_wrong(self, value):
        """Wrong wherever a value stands."""
        for form in ["give {}", "y = {}", "k[0] = {}", "k[{}] = 0", "if {}\n  stop\nelse\n  stop", "while {}\n  stop",
                     "give ({} + 1)", "give (1 < {})", "give k[{}]", "give b.d({})", "give g({})", "give h({}, 1)",
                     "give h(h(1, {}), 1)"]:
            self.wrong(self.body(form.format(value)))

    def value_good(self, value):
        for form in ["give {}", "y = {}", "k[0] = {}", "k[{}] = 0", "if {}", "while {}\n  stop", "give ({} + 1)",
                     "give (1 < {})", "give k[{}]", "give b.d({})", "give g({})", "give h({}, 1)", "give h(1, {})"]:
            self.good(self.body(form.format(value)))

    def test_values(self):
        for value in ["0", "9999", "x", "unset", "go", "k", "b", "f", "k[0]", "k [ 1 ]", "f()", "g(1)",
                      "h(1, 2)", "b.d(x)", "c . d ( x )", "(1 rest 2)", "((1+2)-(3*4))", "((1 < 2) = (1 = 2))", "to",
                      "h(h(f(), f()), g(g(1)))", "b.d(c.d(b.e(k[k[x]])))"]:
            self.value_good(value)
        for value in ["@10000", "@01", "@00", "@1x", "@X", "@xA", "@xZ", "@x_", "@x0Az", "@)", "@]", "@=", "@-1", "@+", "@,", "@.", "@if", "@rest", "@stop",
                      "@room", "@\t", "@;", "(@)", "(x @)", "(x @y)", "(x@, y)", "(x@[0])", "(x + @)", "(x + y @+ z)",
                      "(x - @-)", "(x rest@< y)", "(x < @< y)", "(x @> y)", "(x @/ 2)", "(x @rests y)",
                      "(x + y@]", "((x + y) @)", "k[@]", "k[0@)", "k[0@, 0]", "k@(0)", "k@.d(0)", "x@[0]", "x@(0)",
                      "x@.d(0)", "f@[0]", "f(@0)", "f(@x)", "f(@,)", "f@.d(0)", "g(@)", "g(1@, 2)", "g(1 @2)", "g(1@]",
                      "h(@)", "h(1@)", "h(1, @)", "h(1,@, 2)", "h(1 @2)", "h(1, 2@, 3)", "h(@, 1)", "b@(0)", "b@[0]",
                      "b.@x(0)", "b.@go(0)", "b.d@[0]", "b.d(@)", "b.d(1@, 2)", "b.d@.e(0)", "c.@e(0)",
                      "a@.go(0)", "go@(0)", "to@(0)", "b.@1(0)", "b.@(0)", "e@(0)", "d@(0)"]:
            self.value_wrong(value)

    def test_ends_of_lines_in_values(self):
        for body in ["give@", "give (@", "give (x@", "give (x +@", "give (x + y@", "give k[@", "give k[0@", "give g(@",
                     "give h(1@", "give h(1,@", "give b.@", "give b.d@", "give b.d(@", "give b.d(1@", "y =@", "k[0] =@",
                     "k[0]@", "k[0@", "k[@", "y@", "k@", "if@", "while@", "give f(@", "give (x rest@"]:
            self.wrong(self.body(body))
            self.wrong(self.body(body + "     # more"))
            self.wrong(self.body(body + "   "))
        for body in ["stop @x", "give x @y", "y = x @= 1", "y = x@)", "if x @y", "while x@]", "k[0] = 1 @2", "stop@()",
                     "give x @stop", "if x@:", "give 1 @0", "y = 1@."]:
            self.wrong(self.body(body))

    def test_begins_of_statements(self):
        for body in ["@1", "@1 = 2", "@(", "@X = 1", "@rest = 1", "@else", "@door = 1", "@room", "@-", "@_", "@abcdefghi = 1",
                     "y @+ 1", "y @x = 1", "y@[0] = 1", "x@(1)", "f@()", "g@(1)", "b@.d(1)", "y@.d(1)", "f@[0] = 1",
                     "k@(0)", "k@.x", "k[0]@", "k[0] @+ 1", "k[0]@[0] = 1", "y@", "y@ ", "k =@ ", "@depth 1", "@uses b.d"]:
            self.wrong(self.body(body))
        for body in ["k = 1", "b = 1", "go = 1", "f = f()", "a = 1", "number = 1", "k[k] = k"]:
            self.good(self.body(body))

    def test_functions_may_run_those_ahead_alone(self):
        for inner in ["give f()", "give g(f())", "give g(p)"]:
            self.good(self.body("stop", inner))
        for inner in ["give h@(1, 2)", "give g(h@(1, 2))", "give go@(1)"]:
            self.wrong(self.body("stop", inner))
        self.wrong("depth 1\nroom a\n  function f\n    give g@()\n  function g\n  door d x 1")
        self.good("depth 1\nroom a\n  function f\n  function g\n    give f()\n  door d x 1")
        # Blocks, functions and imports of another room are none of this one.
        self.wrong("depth 1\nroom a\n  block k 1\n  door d x 1\nroom b\n  door d x 1\n    give k@[0]")
        self.wrong("depth 1\nroom a\n  function f\n  door d x 1\nroom b\n  door d x 1\n    give f@()")
        self.wrong("depth 1\nroom a\n  uses b.d\n  door d x 1\nroom b\n  door d x 1\n    give b@.d(1)")

    def test_indents(self):
        for body in ["stop\n @stop", "stop\n  @stop", "stop\n    @stop", "if x\n @stop", "if x\n    @stop", "if x\n   @stop",
                     "while x\n  stop\n    @stop", "if x\n  stop\n @else", "if x\n  stop\n  @else", "if x\n  stop\nelse\n    @stop",
                     "if x\n  stop\nelse\n   @stop", "y = 1\n  @y = 2", "while x\n  y = 1\n   @y = 2", "give x\n  @give x"]:
            self.wrong(self.body(body))
        for blanks in [0, 1, 3, 5, 6, 7, 8, 20]:
            self.wrong(f"depth 1\nroom a\n  door d x 1\n{' ' * blanks}@stop")
        for blanks in [1, 3, 4, 5, 6, 12]:
            self.wrong(f"depth 1\nroom a\n{' ' * blanks}@block b 1\n  door d x 1")
            self.wrong(f"depth 1\nroom a\n{' ' * blanks}@door d x 1")
            self.wrong(f"depth 1\nroom a\n  door d x 1\n    stop\n{' ' * blanks}@door e x 1")
            self.wrong(f"depth 1\nroom a\n  door d x 1\n{' ' * blanks}@room b\n  door d x 1")

    def test_bodies_may_be_empty(self):
        for body in ["if x", "if x\nstop", "while x\nwhile x\nif x\nif x", "if x\n  if x\n    while x\nstop", "if x\nelse\n  stop",
                     "if x\n  if x\n  else\n    stop\nelse\n  stop", "while x\n  if x\n  stop\nstop",
                     "if x\n  while x\n    stop\nelse\n  while x\nstop"]:
            self.good(self.body(body))

    def test_else(self):
        for body in ["@else", "stop\n@else\n  stop", "while x\n@else\n  stop", "while x\n  stop\n@else\n  stop",
                     "if x\n  stop\nstop\n@else\n  stop", "if x\nelse\n  stop\n@else\n  stop", "if x\nelse @x\n  stop",
                     "if x\nelse\n@stop", "if x\nelse\n@else\n  stop", "if x\nelse\n  @else", "if x\n  @else\n    stop",
                     "if x\n  if x\n  else\n  @stop", "if x\n  if x\n  else\n@else\n  stop", "if x\nelse\n  while x\n  @else",
                     "if x\n  while x\n  @else\n    stop", "if x\n  stop\n  @else\nelse\n  stop", "if x\n@Else",
                     "if x\n  if x\n    stop\n  else\n    stop\n  @else", "if x\nelse@("]:
            self.wrong(self.body(body))
        text = "depth 1\nroom a\n  door d x 1\n    if x\n    else"
        self.wrong_at_end(text)
        self.wrong(text + "\n  @door e x 1")
        self.wrong(text + "\n@room b\n  door e x 1")
        self.wrong(text + "\n    @stop")
        self.good(text + "\n      stop")


class BoundsTest(ReadTest):
    START = "depth 1\nroom a\n  uses b.d\n  block k 1\n  function f p\n  door d x 1\n"
    END = "\nroom b\n  door d x 1"

    def told(self, lines):
        return self.START + "\n".join("    " + line for line in lines) + self.END

    def test_201_nodes(self):
        self.good(self.told(["stop"] * 200))
        for more in ["@stop", "@y = 1", "@give x", "@if x", "@while x", "@k[0] = 1"]:
            self.wrong(self.told(["stop"] * 200 + [more]))
        for more in ["y = @1", "give @x", "if @x", "while @(x + 1)", "k[@0] = 1", "give @f(1)", "give @b.d(1)"]:
            self.wrong(self.told(["stop"] * 199 + [more]))
        self.good(self.told(["stop"] * 198 + ["y = 1"]))
        for more in ["y = (@1 + 1)", "give k[@x]", "give f(@1)", "give b.d(@1)", "k[0] = @1"]:
            self.wrong(self.told(["stop"] * 198 + [more]))
        self.good(self.told(["stop"] * 198 + ["give f"]))
        for more in ["y = (1 + @1)", "if (x + @1)", "k[k[0]] = @1", "give f(f(@1))"]:
            self.wrong(self.told(["stop"] * 197 + [more]))
        self.wrong(self.told(["stop"] * 198 + ["if x", "  @stop"]))
        self.wrong(self.told(["stop"] * 197 + ["if x", "  stop", "else", "  @y = 1"]))
        self.good(self.told(["stop"] * 196 + ["if x", "  stop", "else", "  stop"]))
        # Each part has its own count.
        full = "function f p" + "\n    stop" * 200
        self.good(self.told(["stop"] * 200).replace("function f p", full))
        self.wrong(self.told(["stop"] * 200).replace("function f p", full + "\n    @stop"))

    def nested(self, many, inner, word="while x"):
        return ["  " * at + word for at in range(many)] + ["  " * many + inner]

    def test_deeper_than_12(self):
        self.good(self.told(["give " + "(" * 10 + "x" + " + 1)" * 10]))
        self.wrong(self.told(["give " + "(" * 11 + "@x" + " + 1)" * 11]))
        self.wrong(self.told(["give " + "(" * 11 + "@(" + "x" + " + 1)" * 12]))
        self.wrong(self.told(["give " + "(1 + " * 10 + "(@1 + x)" + ")" * 10]))
        self.good(self.told(["give " + "b.d(" * 10 + "x" + ")" * 10]))
        self.wrong(self.told(["give " + "b.d(" * 11 + "@x" + ")" * 11]))
        self.wrong(self.told(["give " + "f(" * 11 + "@f(x)" + ")" * 11]))
        self.wrong(self.told(["give " + "k[" * 11 + "@b.d(x)" + "]" * 11]))
        self.wrong(self.told(["k[" + "k[" * 10 + "k[@x]" + "]" * 10 + "] = 1"]))
        self.wrong(self.told(["y = " + "k[" * 11 + "@0" + "]" * 11]))
        for begin in ["y = ", "k[0] = ", "give ", "if ", "while "]:
            for one in ["({} + 1)", "(1 + {})", "k[{}]", "f({})", "b.d({})"]:
                # The first operand comes first: it is too deep ahead of the second one.
                value = one.replace("{}", "x").replace("1", "@1") if one == "(1 + {})" else one.format("@x")
                for _ in range(10):
                    value = one.format(value)
                self.wrong(self.told([begin + value]))
                value = "x"
                for _ in range(10):
                    value = one.format(value)
                self.good(self.told([begin + value]))
        self.good(self.told(self.nested(11, "stop")))
        self.good(self.told(self.nested(10, "give x")))
        self.wrong(self.told(self.nested(11, "give @x")))
        self.wrong(self.told(self.nested(11, "y = @(x + 1)")))
        self.wrong(self.told(self.nested(11, "if @x")))
        self.wrong(self.told(self.nested(11, "k[@0] = 1", "if x")))
        self.wrong(self.told(self.nested(10, "give (@x + 1)", "if x")))
        self.good(self.told(self.nested(10, "k[0] = 1", "if x")))

    def test_the_doc_examples(self):
        text = "depth 2\nroom a\n  door go x 10\n    while (x < 3)\n      x = (x + 1)\n    give x"
        self.wrong_at(text.replace("(x + 1)", "(x + )"), (5, 16))
        self.wrong_at(text[:-1] + "go(x)", (6, 12))
        self.wrong_at(text + "\n    y[0] = 1", (7, 6))


if __name__ == "__main__":
    unittest.main()
