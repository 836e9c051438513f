"""Points [8], [28], [29]: sections, boards, instructions."""

import unittest

from odd import odd_values
from ownharm.errors import BadBoard, BadEntries, BadInstruction, BadNumber, BadRoomNumber, BadSection
from ownharm.sections import board_face, instruction, instruction_number, is_board, is_section, with_section

ONE = ((0,), (0,))
TWO = ((1300, 9999), (0, 9999))
BOARD = (7, (((1, 1), (2, 0)), (), ((1, 0), (0, 0), (1, 1))), (ONE, TWO, ONE))


class SectionTest(unittest.TestCase):
    def test_sections(self):
        for value in [ONE, TWO, ((0,) * 4000, (0,)), ((9999,), (9999,) * 6), ((5,), (4000,))]:
            self.assertIs(is_section(value), True)

    def test_no_sections(self):
        wrong = [((0,) * 4001, (0,)), ((), (0,)), ((0,), ()), ((0,), (0,) * 7), ([0], (0,)), ((0,), [0]), [(0,), (0,)],
                 ((0,),), ((0,), (0,), 0), ((10000,), (0,)), ((0,), (10000,)), ((-1,), (0,)), ((True,), (0,)),
                 ((0,), (False,)), ((None,), (0,)), ((0,), (None,)), (("0",), (0,)), (((0,),), (0,)), (0, 0), ((0,), 0),
                 ((10 ** 99,), (0,)), ("0", "0"), ((0, 1, 2, -1), (0,))]
        for value in odd_values() + wrong:
            self.assertIs(is_section(value), False)


class BoardTest(unittest.TestCase):
    def test_boards(self):
        eight = (((1, 0), (1, 1), (1, 2), (1, 3), (1, 4), (1, 5), (2, 0), (2, 1)), (), ())
        many = (((0,), (0,) * 6),) * 3
        for value in [BOARD, (1, ((),), (ONE,)), (60, ((),), (ONE,)), (1, ((),) * 6, (ONE,) * 6), (1, eight, many)]:
            self.assertIs(is_board(value), True)

    def test_no_boards(self):
        nine = (((1, 0), (1, 1), (1, 2), (1, 3), (1, 4), (1, 5), (2, 0), (2, 1), (2, 2)), (), ())
        many = (((0,), (0,) * 6),) * 3
        wrong = [(1, nine, many), (0, ((),), (ONE,)), (61, ((),), (ONE,)), (True, ((),), (ONE,)), (None, ((),), (ONE,)),
                 (1, (), ()), (1, ((),) * 7, (ONE,) * 7), (1, ((),), (ONE, ONE)), (1, ((), ()), (ONE,)), [1, ((),), (ONE,)],
                 (1, [()], (ONE,)), (1, ((),), [ONE]), (1, ([],), (ONE,)), (1, ((),), (list(ONE),)), (1, ((),)),
                 (1, ((),), (ONE,), 0), (1, ((),), (((), (0,)),)), (10 ** 99, ((),), (ONE,)), (1, (None,), (ONE,)),
                 (1, ((),), (None,)), (1, ((),), ONE)]
        for pair in [(0, 0), (2, 0), (-1, 0), (1, 1), (1, -1), (True, 0), (1, False), [1, 0], (1,), (1, 0, 0), (1, None), None,
                     ("1", "0"), (10 ** 99, 0), (1, 10 ** 99)]:
            wrong.append((1, ((pair,), ()), (ONE, ONE)))
        wrong.append((1, (((1, 0), (1, 0)), ()), (ONE, ONE)))
        for value in odd_values() + wrong:
            self.assertIs(is_board(value), False, value)
            self.assertRaises(BadBoard, board_face, value)
            self.assertRaises(BadBoard, with_section, value, None, None)

    def test_each_place_of_a_board_with_values_of_every_kind(self):
        for at in range(3):
            for value in odd_values():
                changed = BOARD[:at] + (value,) + BOARD[at + 1:]
                self.assertIs(is_board(changed), at == 0 and value == 1 and not isinstance(value, bool))

    def test_face(self):
        self.assertEqual(board_face(BOARD), (7, BOARD[1], (1, 2, 1)))
        self.assertEqual(board_face(board=(1, ((),), (ONE,))), (1, ((),), (1,)))
        self.assertEqual(board_face((1, ((), ()), (((0,) * 50, (0,) * 3), ((0,), (0,) * 6)))), (1, ((), ()), (3, 6)))


class WithSectionTest(unittest.TestCase):
    def test_ordinary(self):
        new = ((5, 6, 7), (8, 9))
        changed = with_section(BOARD, 1, new)
        self.assertEqual(changed, (7, BOARD[1], (ONE, new, ONE)))
        self.assertEqual(with_section(changed, 1, TWO), BOARD)
        self.assertEqual(with_section(section=((3,), (4,)), room=2, board=BOARD)[2], (ONE, TWO, ((3,), (4,))))

    def test_errors_in_their_order(self):
        for room in [-1, 3, True, False, None, "0", (0,), [0], {}, 10 ** 99]:
            self.assertRaises(BadRoomNumber, with_section, BOARD, room, None)
        for value in odd_values():
            self.assertRaises(BadSection, with_section, BOARD, 0, value)
        for room, section in [(0, TWO), (1, ONE), (2, ((0,), (0,) * 6)), (1, ((0,), (0,) * 3))]:
            self.assertRaises(BadEntries, with_section, BOARD, room, section)


WORDS = {"stop": 0, "set": 1, "get": 2, "put": 2, "rest": 3, "plus": 3, "minus": 3, "times": 3, "less": 3, "jump": 2,
         "ask": 2, "give": 0}
COUNTS = {"stop": 1000, "set": 100, "get": 5, "put": 5, "ask": 5, "jump": 10, "give": 500}


class InstructionTest(unittest.TestCase):
    def told(self, number):
        """The instruction as the document tells it by the digits."""
        a, b, c, d = (int(sign) for sign in f"{number:04d}")
        return [("stop",), ("set", b), ("get", b, c) if d < 5 else ("put", b, c), ("rest", b, c, d), ("plus", b, c, d),
                ("minus", b, c, d), ("times", b, c, d), ("less", b, c, d), ("jump", b, c),
                ("ask", b, c) if d < 5 else ("give",)][a]

    def test_all_numbers(self):
        numbers = {}
        for number in range(10000):
            self.assertEqual(instruction(number), self.told(number))
            numbers.setdefault(instruction(number), []).append(number)
        self.assertEqual(len(numbers), 5412)
        for told, all_of_them in numbers.items():
            self.assertEqual(instruction_number(told), all_of_them[0])
            self.assertEqual(instruction(instruction_number(told)), told)
            self.assertEqual(len(all_of_them), COUNTS.get(told[0], 1))
            self.assertEqual(len(told), WORDS[told[0]] + 1)

    def test_some(self):
        told = {7: ("stop",), 0: ("stop",), 1500: ("set", 5), 2354: ("get", 3, 5), 2355: ("put", 3, 5), 8129: ("jump", 1, 2),
                9124: ("ask", 1, 2), 9125: ("give",), 3999: ("rest", 9, 9, 9)}
        for number, worth in told.items():
            self.assertEqual(instruction(number=number), worth)

    def test_bad_numbers(self):
        for value in odd_values() + [-1, 10000]:
            if value not in (0, 1) or isinstance(value, bool):
                self.assertRaises(BadNumber, instruction, value)

    def test_no_instructions(self):
        wrong = [("plus", 0, 1), ("plus", 0, 1, 2, 3), ("plus", 0, 1, 10), ("plus", 0, 1, -1), ("plus", 0, True, 1),
                 ["stop"], ("Stop",), ("stop", 0), ("give", 0), ("set",), ("set", 10), ("set", 1, 2), ("set", "1"),
                 ("set", None), ("jump", 1), ("jump", 1, 2, 3), ("ask", 1, 10), ("cell", 5), ("entries", 0), (0,), "stop",
                 (("stop",),), (["stop"],), ("get", 1, (2,)), ("get", 10 ** 99, 0), (None,), (True,), ()]
        for value in odd_values() + wrong:
            if value != ("give",):
                self.assertRaises(BadInstruction, instruction_number, value)


if __name__ == "__main__":
    unittest.main()
