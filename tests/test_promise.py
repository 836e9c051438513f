"""Point [46]: rooms and what changes make of them, alone beside drawn events and in the rows of programs."""

import random
import unittest

from busyrooms import busy_program, draw_busy_room
from drawnsections import draw_section
from ownharm.alone import view_alone
from ownharm.boards import board_of
from ownharm.changes import changed, changes_of
from ownharm.errors import TooLarge
from ownharm.passes import inlining
from ownharm.rooms import face_of, nodes, part_names
from plainroom import PlainRoom
from promise import PromiseCheck


def told_changes(rng, source, most):
    """Some changes of every kind that can be done, inlinings among them."""
    places = [(part, at) for part in part_names(source) for at in range(len(nodes(source, part)))]
    inlinings = [inlining(source, place) for place in places]
    kinds = {}
    for change in changes_of(source) + [change for change in inlinings if change is not None]:
        kinds.setdefault(change[0], []).append(change)
    return [change for told in kinds.values() for change in rng.sample(told, min(most, len(told)))]


class PlainRoomTest(unittest.TestCase):
    def test_the_room_of_the_tests_does_what_the_package_tells(self):
        for seed in range(100):
            rng = random.Random(seed)
            program = busy_program(draw_busy_room(rng))
            plain, events, view = PlainRoom(program, 1), [], []
            for _ in range(8):
                number = rng.choice([0, 1, 2, 9999])
                event = ("got", number) if plain.runnings and rng.random() < 0.6 else ("in", rng.randrange(2), number)
                plain.come_in(event)
                act, _ = plain.act_within(500)
                events.append(event)
                view += [event] if act is None else [event, act]
                self.assertEqual(view_alone(program, 1, events, 500), view)
                if act is None or act[0] in ("undefined", "ends"):
                    break


class PromiseTest(unittest.TestCase):
    def test_alone(self):
        ends, acts, kinds = {}, 0, {}
        for seed in range(160):
            rng = random.Random(seed)
            source = draw_busy_room(rng, rng.choice([10, 20, 40]))
            for change in told_changes(rng, source, 2):
                check = PromiseCheck(self, busy_program(source), busy_program(changed(source, change)))
                for _ in range(3):
                    done, end = check.alone(rng, 12)
                    acts += done
                    ends[end] = ends.get(end, 0) + 1
                kinds[change[0]] = kinds.get(change[0], 0) + 1
        self.assertEqual((len(ends), len(kinds)), (4, 10))
        self.assertGreater(min(kinds.values()), 10)
        self.assertGreater(acts, 3000)

    def test_several_changes(self):
        for seed in range(60):
            rng = random.Random(seed)
            source = room = draw_busy_room(rng, 25)
            for _ in range(6):
                told = told_changes(rng, room, 1)
                if told:
                    room = changed(room, rng.choice(told))
            check = PromiseCheck(self, busy_program(source), busy_program(room), False)
            for _ in range(3):
                check.alone(rng, 12)

    def test_rows_of_programs_and_of_boards(self):
        shown = 0
        for seed in range(70):
            rng = random.Random(seed)
            source = draw_busy_room(rng, rng.choice([10, 20, 40]))
            program = busy_program(source)
            for change in told_changes(rng, source, 1):
                other = busy_program(changed(source, change))
                try:
                    boards = (board_of(program), board_of(other))
                except TooLarge:
                    boards = None
                shown += PromiseCheck(self, program, other).rows(rng.randrange(6), boards)
        self.assertGreater(shown, 1200)

    def test_boards_with_foreign_sections(self):
        """Beside any section the view of the changed room stays; so does the row, up to its first undefined step."""
        for seed in range(60):
            rng = random.Random(seed)
            source = draw_busy_room(rng, 15)
            program = busy_program(source)
            _, wires, doors = face_of(program)
            foreign = {room: draw_section(rng, wires[room], doors[room]) for room in (0, 2)}
            for change in told_changes(rng, source, 1)[:4]:
                other = busy_program(changed(source, change))
                try:
                    boards = (board_of(program, foreign), board_of(other, foreign))
                except TooLarge:
                    continue
                PromiseCheck(self, program, other).foreign_rows(rng.randrange(6), boards)


if __name__ == "__main__":
    unittest.main()
