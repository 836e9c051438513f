"""Point [16] over drawn texts: the first wrong token hangs on what is ahead alone.

A text is taken to its tokens here apart from the package; then tokens are exchanged, left out and put in.
"""

import random
import re
import unittest

from drawn import draw_program
from ownharm.errors import BadText
from ownharm.rooms import is_program
from ownharm.roomtexts import program_of, program_text

SIGNS = ["x", "a", "go", "0", "7", "10000", "01", "(", ")", "[", "]", ",", ".", "=", "+", "-", "*", "<", "rest", "if",
         "else", "give", "stop", "while", "room", "door", "function", "block", "uses", "depth", "X", "_", "?"]


def tokens_of(text):
    """The tokens with their lines and columns, the ends of lines ("") and the end of the text (None) too."""
    found = []
    for at, line in enumerate(text.split("\n")):
        row = [(match.group(), at + 1, match.start() + 1)
               for match in re.finditer(r"[A-Za-z0-9_]+|[^ ]", line.split("#")[0])]
        if row:
            found.extend(row)
            found.append(("", at + 1, row[-1][2] + len(row[-1][0])))
    return found + [(None, text.count("\n") + 2, 1)]


def result(text):
    """The program, or the line and the column of what is wrong."""
    try:
        return program_of(text), None
    except BadText as error:
        return None, (error.line, error.column)


def offset(text, line, column):
    """Where a line and a column are in a text, counted from 0."""
    return sum(len(one) + 1 for one in text.split("\n")[:line - 1]) + column - 1


class PrefixTest(unittest.TestCase):
    def check_mutant(self, text, changed, ahead):
        """Only what stands behind the first signs has been changed: the error is not ahead of it."""
        program, place = result(changed)
        if program is not None:
            self.assertTrue(is_program(program))
            self.assertEqual(program_of(program_text(program)), program)
            return False
        places = {(line, column): token for token, line, column in tokens_of(changed)}
        imports_wrong = self.is_import(changed, place)
        self.assertIn(place, places)
        if imports_wrong:
            return True
        self.assertGreaterEqual(place, ahead, changed)
        self.check_hangs_on_what_is_ahead(changed, place, places[place])
        return True

    def is_import(self, text, place):
        """Whether the place is that of the room of an import, which may be told when all else is right."""
        lines = text.split("\n")
        if place[0] > len(lines) or not re.match(" *uses ", lines[place[0] - 1]):
            return False
        return re.match("[a-z][a-z0-9]* *[.]", lines[place[0] - 1][place[1] - 1:]) is not None

    def check_hangs_on_what_is_ahead(self, text, place, token):
        if token is None:
            return
        lines = text.split("\n")
        cut = offset(text, *place)
        behind = cut + len(token)
        if token == "":
            for more in ["", "\n", "\n    give x", "\n  door q x 1\n", "\nroom zz\n  door d x 1"]:
                self.assertEqual(result(text[:cut] + more)[1], place, text)
        else:
            for more in ["", " ", "\n", " ) ] = 1", "(x)", "\n    give x\n", " # room"]:
                if token[0].isalnum() or token[0] == "_" or more[:1] != "(":
                    self.assertEqual(result(text[:behind] + more)[1], place, (text, more))
        self.assertLessEqual(place[0], len(lines))

    def test_one_token_exchanged_left_out_or_put_in(self):
        rng = random.Random(11)
        wrong = 0
        for seed in range(130):
            text = program_text(draw_program(seed, seed % 2 == 0, 50))
            tokens = [one for one in tokens_of(text) if one[0]]
            for _ in range(8):
                token, line, column = rng.choice(tokens)
                at = offset(text, line, column)
                kind = rng.randrange(3)
                sign = rng.choice(SIGNS + [one[0] for one in tokens[:20]])
                if at and text[at - 1].isalnum():
                    sign = " " + sign
                if kind == 0:
                    changed = text[:at] + sign + " " + text[at + len(token):]
                elif kind == 1:
                    changed = text[:at] + (" " if at and text[at - 1].isalnum() else "") + text[at + len(token):]
                else:
                    changed = text[:at] + sign + " " + text[at:]
                # What is left out at the end of a line leaves the end of the line ahead of its place.
                ahead = [one for one in tokens_of(text) if (one[1], one[2]) < (line, column)]
                last = ahead[-1] if ahead else ("", 1, 1)
                bound = (last[1], last[2] + len(last[0] or ""))
                wrong += self.check_mutant(text, changed, bound)
        self.assertGreater(wrong, 500)

    def test_every_beginning_of_a_text(self):
        for seed in range(12):
            text = program_text(draw_program(seed, True, 40))
            tokens = tokens_of(text)[:-1]
            for token, line, column in tokens:
                if token == "":
                    continue
                begin = text[:offset(text, line, column) + len(token)]
                program, place = result(begin)
                if program is None and not self.is_import(begin, place):
                    # Not a word of it is wrong: what is wrong is an end.
                    self.assertIn(place, [(one[1], one[2]) for one in tokens_of(begin)[-2:]], begin)

    def test_each_line_with_another_indent(self):
        rng = random.Random(3)
        for seed in range(80):
            lines = program_text(draw_program(seed, True, 60)).split("\n")
            at = rng.randrange(len(lines))
            blanks = len(lines[at]) - len(lines[at].lstrip(" "))
            other = rng.choice([one for one in range(12) if one != blanks])
            changed = lines[:at] + [" " * other + lines[at].lstrip(" ")] + lines[at + 1:]
            program, place = result("\n".join(changed))
            if other % 2 == 1:
                self.assertEqual(place, (at + 1, other + 1))
            elif program is None and place[0] <= at + 1 and not self.is_import("\n".join(changed), place):
                self.assertEqual(place, (at + 1, other + 1))


if __name__ == "__main__":
    unittest.main()
