"""Points [30], [31]: the texts of sections, and sections read from them."""

import random
import unittest

from odd import odd_values
from ownharm.errors import BadSection, BadSectionText
from ownharm.sections import instruction, is_section
from ownharm.sectiontexts import section_of, section_text

EXAMPLE = ((1007, 42, 4012, 1300, 9005, 2395), (0, 9))
EXAMPLE_TEXT = "entries 0 9\ncell 1007\ncell 42\nplus 0 1 2\nset 3 9005\nput 3 9"


class TextTest(unittest.TestCase):
    def test_the_example(self):
        self.assertEqual(section_text(EXAMPLE), EXAMPLE_TEXT)
        self.assertEqual(section_of(EXAMPLE_TEXT), EXAMPLE)
        self.assertEqual(section_of(text=section_text(section=EXAMPLE)), EXAMPLE)

    def cells(self, *cells):
        return section_text((cells, (0,))).split("\n")[1:]

    def test_sets(self):
        self.assertEqual(self.cells(1300), ["set 3"])
        self.assertEqual(self.cells(1300, 1300), ["set 3 1300"])
        self.assertEqual(self.cells(1300, 1300, 1300), ["set 3 1300", "set 3"])
        self.assertEqual(self.cells(1000, 1900, 1900, 1000), ["set 0 1900", "set 9 1000"])
        self.assertEqual(self.cells(1000, 42, 1000, 7), ["set 0 42", "set 0 7"])
        self.assertEqual(self.cells(1001, 1300), ["cell 1001", "set 3"])
        self.assertEqual(self.cells(1300, 1001, 0), ["set 3 1001", "stop"])
        self.assertEqual(self.cells(0, 1, 9005, 9999, 9120, 9124), ["stop", "cell 1", "give", "cell 9999", "ask 1 2",
                                                                   "cell 9124"])
        self.assertEqual(self.cells(8120, 8121, 2120, 2121, 2125, 2126), ["jump 1 2", "cell 8121", "get 1 2", "cell 2121",
                                                                         "put 1 2", "cell 2126"])

    def test_all_numbers_by_themselves(self):
        for number in range(10000):
            line = self.cells(number)
            self.assertEqual(len(line), 1)
            words = tuple([int(word) if word.isdigit() else word for word in line[0].split(" ")])
            if words[0] == "cell":
                self.assertEqual(words[1], number)
                self.assertIn(instruction(number), [instruction(less) for less in range(number - number % 1000, number)])
            else:
                self.assertEqual(words, instruction(number))
            self.assertEqual(section_of("entries 5\n" + line[0]), ((number,), (5,)))

    def test_there_and_back(self):
        rng = random.Random(9)
        for _ in range(400):
            cells = tuple(rng.choice([rng.randrange(10000), rng.randrange(10) * 100 + 1000, rng.randrange(100)])
                          for _ in range(rng.choice([1, 2, 3, 10, 60])))
            section = (cells, tuple(rng.randrange(10000) for _ in range(rng.randint(1, 6))))
            self.assertEqual(section_of(section_text(section)), section)
        for number in (0, 1, 1000, 1300, 9999, 7123):
            section = ((number,) * 4000, (9999,) * 6)
            self.assertEqual(section_of(section_text(section)), section)

    def test_bad_sections(self):
        for value in odd_values() + [((), (0,)), ((0,) * 4001, (0,)), ([0], (0,))]:
            self.assertRaises(BadSection, section_text, value)


class ReadTest(unittest.TestCase):
    def wrong(self, text, line):
        with self.assertRaises(BadSectionText, msg=text) as caught:
            section_of(text)
        self.assertEqual(caught.exception.line, line, text)

    def test_no_strings(self):
        for value in odd_values():
            if not isinstance(value, str):
                self.wrong(value, None)

    def test_remarks_and_empty_lines(self):
        lines = EXAMPLE_TEXT.split("\n")
        rng = random.Random(4)
        for _ in range(100):
            out = []
            for line in lines:
                while rng.random() < 0.4:
                    out.append(rng.choice(["", "#", "# set 3", "##", "#entries 1", "# " + "x" * 50]))
                out.append(line)
            while rng.random() < 0.4:
                out.append(rng.choice(["", "# more"]))
            self.assertEqual(section_of("\n".join(out)), EXAMPLE)

    def test_one_cell_or_two(self):
        self.assertEqual(section_of("entries 1\nset 3\nset 3 5\nset 3\ncell 4012\ncell 0"), (
            (1300, 1300, 5, 1300, 4012, 0), (1,)))

    def test_no_entries_or_no_cells(self):
        self.wrong("", 1)
        self.wrong("\n", 2)
        self.wrong("# only\n\n#", 3)
        self.wrong("entries 1", 1)
        self.wrong("entries 1\n", 2)
        self.wrong("\nentries 1 2\n# stop\n", 4)

    def test_first_wrong_line(self):
        for line in ["entries", "entries 1 2 3 4 5 6 7", "entries 10000", "entries 01", "entries -1", "entries x", "entries  1",
                     " entries 1", "entries 1 ", "Entries 1", "entries 1 # x", "stop", "cell 1", " ", " # x", "entries 1\t",
                     "entries\t1", "entries 1,2", "entry 1", "x", "entries " + "9" * 5000, "entries 1 True", "entries \u0661"]:
            self.wrong(line + "\nstop", 0)
            self.wrong("\n# x\n" + line + "\nstop\n!", 2)
        for line in ["entries 1", "stop 0", "give 1", "set", "set 10", "set 1 10000", "set 1 2 3", "set 1 01", "set 01", "set -1",
                     "set 10 5", "set x 5", "cell", "cell 10000", "cell 01", "cell -1", "cell 1 2", "cell x", "plus 1 2",
                     "plus 1 2 3 4", "plus 1 2 10", "plus 1 2 03", "plus  1 2 3", "plus 1 2 3 ", " plus 1 2 3", "Plus 1 2 3",
                     "jump 1", "jump 1 2 3", "get 1", "put 1 2 3", "ask 1", "ask 1 2 3", "stop ", " stop", "halt", "0", "4012",
                     " ", "stop # x", " # x", "stop\t", "\tstop", "less 1 2", "rest 1", "times", "minus a b c", "set 1  2",
                     "cell " + "1" * 5000, "set 5 " + "1" * 5000, "stop\r", "cell 1.0", "cell +1", "cell 1_0"]:
            self.wrong("entries 0\n" + line, 1)
            self.wrong("entries 0\nstop\n\n# x\ncell 7\n" + line + "\nstop\n!\n", 5)

    def test_4000_cells_and_one_more(self):
        head = "entries 0\n"
        self.assertEqual(section_of(head + "stop\n" * 4000), ((0,) * 4000, (0,)))
        self.wrong(head + "stop\n" * 4001, 4001)
        self.wrong(head + "stop\n" * 4001 + "!", 4001)
        self.wrong(head + "stop\n" * 4000 + "\n# x\n!", 4003)
        self.wrong(head + "stop\n" * 4000 + "\n# x\nset 3", 4003)
        self.assertEqual(len(section_of(head + "set 1 2\n" * 2000)[0]), 4000)
        self.wrong(head + "set 1 2\n" * 2001, 2001)
        self.wrong(head + "stop\n" * 3999 + "set 1 2", 4000)
        self.assertEqual(section_of(head + "stop\n" * 3999 + "set 1")[0][-1], 1100)
        self.assertEqual(section_of(head + "stop\n" * 3998 + "set 1 2")[0][-2:], (1100, 2))

    def test_what_is_read_is_a_section(self):
        rng = random.Random(2)
        words = ["entries", "cell", "set", "plus", "give", "stop", "jump", "0", "9", "10", "9999", "10000", "", "#", "03"]
        good = 0
        for _ in range(3000):
            lines = ["entries 1"] + [" ".join(rng.choice(words) for _ in range(rng.randint(1, 4))) for _ in range(2)]
            text = "\n".join(lines)
            try:
                section = section_of(text)
            except BadSectionText as error:
                self.assertTrue(0 <= error.line <= 3)
                if error.line < 3:
                    self.assertEqual(self.line_of("\n".join(lines[:error.line + 1])), error.line)
                continue
            good += 1
            self.assertTrue(is_section(section))
            self.assertEqual(section_of(section_text(section)), section)
        self.assertGreater(good, 20)

    def line_of(self, text):
        with self.assertRaises(BadSectionText) as caught:
            section_of(text)
        return caught.exception.line


if __name__ == "__main__":
    unittest.main()
