"""Points [58], [59]: texts of rows, and rows read from texts."""

import itertools
import random
import unittest

from drawn import draw_program
from drawnrows import draw_face, draw_row
from odd import odd_values
from ownharm.errors import BadRow, BadText
from ownharm.meaning import source_row
from ownharm.rows import is_row
from ownharm.rowtexts import row_of, row_text

EXAMPLE = "start 4\ncall 0 1 0 7\nback 1 0 12\nend 0"
FORMS = {"start": 1, "call": 4, "back": 3, "deep": 4, "done": 1, "end": 1}
ITEMS = {"start": "n", "call": "rrdn", "back": "rrn", "deep": "rrdn", "done": "n", "end": "r"}


def can_stand(row, words):
    """Whether some crossing behind the row has a text that begins with these words: all of them are tried."""
    if words[0] not in FORMS or len(words) > 1 + FORMS[words[0]]:
        return False
    choices = []
    for at, kind in enumerate(ITEMS[words[0]]):
        if at + 1 < len(words):
            word = words[at + 1]
            if not word.isascii() or not word.isdigit() or len(word) > 4 or str(int(word)) != word:
                return False
            choices.append([int(word)])
        else:
            choices.append([0] if kind == "n" else range(6))
    return any(is_row(row + [(words[0], *told)]) for told in itertools.product(*choices))


def first_wrong(text):
    """The line and the column of the first wrong word as the document tells them, or the row."""
    row = []
    for number, line in enumerate(text.split("\n")):
        words, column = line.split(" "), 1
        for many in range(1, len(words) + 1):
            if not can_stand(row, words[:many]):
                return (number + 1, column)
            column += len(words[many - 1]) + 1
        if len(words) <= FORMS[words[0]]:
            return (number + 1, len(line) + 1)
        row.append((words[0], *map(int, words[1:])))
    return row


class TextTest(unittest.TestCase):
    def check(self, text):
        told = first_wrong(text)
        if isinstance(told, list):
            self.assertEqual(row_of(text), told)
            self.assertTrue(is_row(told))
            self.assertEqual(row_text(told), text)
        else:
            self.check_bad(text, *told)
        return told

    def check_bad(self, text, line, column):
        with self.assertRaises(BadText, msg=text) as caught:
            row_of(text)
        self.assertEqual((caught.exception.line, caught.exception.column), (line, column), text)

    def test_example(self):
        row = [("start", 4), ("call", 0, 1, 0, 7), ("back", 1, 0, 12), ("end", 0)]
        self.assertEqual(row_text(row), EXAMPLE)
        self.assertEqual(row_text(row=tuple(row)), EXAMPLE)
        self.assertEqual(row_of(text=EXAMPLE), row)
        self.assertIsInstance(row_of(EXAMPLE), list)
        self.assertEqual(row_text([("start", 0), ("call", 0, 5, 5, 9999), ("deep", 5, 0, 0, 0)]),
                         "start 0\ncall 0 5 5 9999\ndeep 5 0 0 0")
        self.assertEqual(row_of("start 0\ndone 9999"), [("start", 0), ("done", 9999)])

    def test_there_and_back(self):
        for seed in range(150):
            rng = random.Random(seed)
            for row in [draw_row(rng, draw_face(rng), 40), source_row(draw_program(seed), seed, 300)]:
                self.assertEqual(row_of(row_text(row)), row)

    def test_bad_rows(self):
        for value in odd_values() + [[], (), [("end", 0)], [["start", 0]]]:
            self.assertRaises(BadRow, row_text, value)

    def test_no_strings(self):
        for value in odd_values():
            if not isinstance(value, str):
                self.check_bad(value, 1, 1)

    def test_first_wrong_words(self):
        ahead = "start 4\ncall 0 1 0 7\n"
        for text, line, column in [
                ("", 1, 1), ("\n", 1, 1), ("\nstart 4", 1, 1), (" ", 1, 1), ("start", 1, 6), ("start ", 1, 7), ("start  4", 1, 7),
                (" start 4", 1, 1), ("start 4 ", 1, 9), ("start 4 5", 1, 9), ("start 10000", 1, 7), ("start 04", 1, 7),
                ("start -1", 1, 7), ("start +1", 1, 7), ("start 4\n", 2, 1), ("start x", 1, 7), ("Start 4", 1, 1), ("end 0", 1, 1),
                ("start 4\nstart 4", 2, 1), ("start 4\nback 0 1 3", 2, 1), ("start 4\ndeep 0 1 0 7", 2, 1), ("start\t4", 1, 1),
                ("start 4\r", 1, 7), ("start 4\ncall 1 0 0 7", 2, 6), ("start 4\ncall 0 0 0 7", 2, 8),
                ("start 4\ncall 0 6 0 7", 2, 8), ("start 4\ncall 0 1 6 7", 2, 10), ("start 4\ncall 0 1 0", 2, 11),
                ("start 4\ncall 0 1 0 ", 2, 12), ("start 4\ncall 0 1 0 00", 2, 12), ("start 4\ncall 0 1", 2, 9),
                ("start 4\ncall 0 1 0 12345", 2, 12), ("start 4\ncall 0 1 0 7 7", 2, 14), ("start 4\ncall", 2, 5),
                ("start 4\nend 1", 2, 5), ("start 4\nend", 2, 4), ("start 4\nend 0 0", 2, 7), ("start 4\nend 0\n", 3, 1),
                ("start 4\nend 0\nend 0", 3, 1), ("start 4\nend 0\n\n", 3, 1), ("start 4\ndone 0\nstart 4", 3, 1),
                ("start 4\ndone 4 4", 2, 8), (ahead + "done 4", 3, 1), (ahead + "end 0", 3, 5), (ahead + "back 0 1 0", 3, 6),
                (ahead + "back 1 2 0", 3, 8), (ahead + "back 1 0", 3, 9), (ahead + "back 1 0 7 7", 3, 12), (ahead, 3, 1),
                (ahead + "deep 1 1 0 0", 3, 8), (ahead + "deep 1 0 0 0\ndeep 1 0 0 0", 4, 1), (ahead + "call 1 1 0 0", 3, 8),
                (ahead + "\nend 1", 3, 1), ("start 4\n call 0 1 0 7", 2, 1), ("start 4\ncall  0 1 0 7", 2, 6),
                ("start 4\ncall 0  1 0 7", 2, 8), ("start " + "1" * 5000, 1, 7), ("~" * 20000, 1, 1)]:
            self.assertEqual(first_wrong(text), (line, column), text)
            self.check_bad(text, line, column)

    def test_signs_that_are_no_figures(self):
        for word in ["\u0664", "\u00b2", "1\u0660", "0x1", "1_0", "1.0", "1e3", "one", "-0", "00", "0000", "10 "]:
            with self.assertRaises(BadText) as caught:
                row_of("start " + word)
            self.assertEqual((caught.exception.line, caught.exception.column), (1, 10 if word == "10 " else 7))

    def test_sixty_open_asks(self):
        lines = ["start 0"] + [f"call {at % 2} {1 - at % 2} 0 0" for at in range(60)]
        self.check("\n".join(lines))
        self.check_bad("\n".join(lines + ["call 0 1 0 0"]), 62, 1)
        self.check("\n".join(lines + ["deep 0 1 0 0"]))
        self.check("\n".join(lines + ["back 0 1 0", "call 1 0 0 0"]))
        self.check_bad("\n".join(lines + ["back 0 1 0", "call 1 0 0 0", "call 0 1 0 0"]), 64, 1)

    def test_every_beginning_of_a_text(self):
        for seed in range(12):
            rng = random.Random(seed)
            text = row_text(draw_row(rng, draw_face(rng), 7))
            for many in range(len(text) + 1):
                self.check(text[:many])

    def test_drawn_texts(self):
        wrong = 0
        for seed in range(700):
            rng = random.Random(seed)
            lines = [line.split(" ") for line in row_text(draw_row(rng, draw_face(rng), 8)).split("\n")]
            line = rng.choice(lines)
            at = rng.randrange(len(line))
            kind = rng.randrange(7)
            if kind == 0:
                line[at] = rng.choice(["", "0", "5", "6", "007", "10000", "9999", "x", "start", "call", "back", "deep", "done", "end"])
            elif kind == 1:
                del line[at]
            elif kind == 2:
                line.insert(at, rng.choice(["", "0", "1", "end"]))
            elif kind == 3:
                line.append(rng.choice(["", "0", "x"]))
            elif kind == 4:
                lines.insert(rng.randrange(len(lines) + 1), rng.choice([[""], ["end", "0"], ["done", "3"], ["start", "1"]]))
            elif kind == 5:
                lines.remove(line)
            else:
                line[0] = rng.choice(list(FORMS))
            told = self.check("\n".join(" ".join(words) for words in lines))
            wrong += isinstance(told, tuple)
        self.assertGreater(wrong, 400)


if __name__ == "__main__":
    unittest.main()
