"""Points [1] and [2]: the whole chain, from texts of programs and of sections to the text of the row and to the blames."""

import random
import unittest

from drawnsmall import UNDEFINED, draw_small
from grown import run_of
from harmful import draw_foreign, draw_harmful_program
from ownharm.alone import view_alone
from ownharm.boards import board_of
from ownharm.changes import changed, changes_of
from ownharm.desk import Desk
from ownharm.errors import Harmful, OwnharmError, TooLarge, TooLong, TooMany
from ownharm.explaining import exchanged, explained, is_explained, sound_row
from ownharm.levels import harm, is_harmless
from ownharm.machine import machine_row
from ownharm.partners import partner
from ownharm.passes import along, improved
from ownharm.rooms import face_of, is_program
from ownharm.roomtexts import program_of, program_text
from ownharm.rows import fits, joined, view_of
from ownharm.rowtexts import row_of, row_text
from ownharm.sectiontexts import section_of, section_text


class ChainTest(unittest.TestCase):
    def test_from_texts_to_blames(self):
        counts = {}
        for seed in range(120):
            rng = random.Random(seed)
            drawn = draw_harmful_program(rng)
            text = program_text(drawn)
            texts = {room: section_text(section) for room, section in draw_foreign(rng, drawn).items()}
            number = rng.choice([0, 3, 4444])
            # From here on there are the texts alone.
            program = program_of(text)
            foreign = {room: section_of(told) for room, told in texts.items()}
            try:
                row = machine_row(board_of(program, foreign), number, 1500)[:100]
            except TooLarge:
                continue
            told = row_text(row)
            self.assertEqual(row_of(told), row)
            self.assertTrue(fits(row_of(told), face_of(program)))
            views = [view_of(row, room) for room in range(len(program[1]))]
            self.assertEqual(joined(face_of(program), views), row)
            rooms = tuple(sorted(foreign))
            blames = explained(program, row_of(told), rooms)
            counts[len(blames)] = counts.get(len(blames), 0) + 1
            self.assertTrue(is_explained(program_of(text), row_of(told), rooms, blames))
            # What the machine shows is what the program shows if finitely many rooms are exchanged.
            new = exchanged(program, row, tuple(sorted([*rooms, *[room for room, _, _ in blames]])))
            self.assertTrue(is_program(new))
            self.assertEqual(run_of(program_of(program_text(new)), number, 10 ** 5).row[:len(row)], row)
            # And each room that was compiled and is among them has done an undefined step of its own.
            for room, place, at in blames:
                self.assertEqual(view_alone(program, room, views_up_to(row, at, room)[::2])[-1], ("undefined", *place))
            sound = sound_row(program, row, rooms)
            self.assertEqual(sound, row[:blames[0][2]] if blames else row)
        self.assertGreater(counts[1] + counts.get(2, 0), 20, counts)

    def test_a_desk_tells_the_same(self):
        for seed in range(60):
            rng = random.Random(seed)
            program = draw_harmful_program(rng)
            foreign = draw_foreign(rng, program)
            names = [source[0] for source in program[1]]
            desk = Desk()
            if desk.say(f"read 3\n{program_text(program)}") != "ok":
                continue
            for room in sorted(foreign):
                self.assertEqual(desk.say(f"lay {names[room]}\n{section_text(foreign[room])}"), "ok")
            self.assertEqual(desk.say("go 300"), "ok")
            row = machine_row(board_of(program, foreign), 3, 300)
            self.assertEqual(row_of(desk.say("row")), row)
            blames = explained(program, row, tuple(sorted(foreign)))
            self.assertEqual(desk.say("blames"), ", ".join(f"{names[room]} {part} {index} {at}" for room, (part, index), at in blames) or "-")
            self.assertEqual(desk.say("settle"), "ok")
            self.assertEqual((row_of(desk.say("row")), desk.say("blames")), (row, "-"))

    def test_changed_ahead_of_compiling(self):
        used = 0
        for seed in range(60):
            rng = random.Random(seed)
            program = draw_harmful_program(rng, 3)
            room = rng.randrange(3)
            source = program[1][room]
            known = changes_of(source)
            other = changed(source, rng.choice(known)) if known and rng.random() < 0.5 else along(source, improved(source))[-1]
            shorter = (program[0], program[1][:room] + (other,) + program[1][room + 1:])
            row = machine_row(board_of(shorter), 3, 1500)[:80]
            self.assertTrue(is_explained(program, row, (), explained(program, row)))
            used += other != source
        self.assertGreater(used, 30)

    def test_a_harmful_room_and_its_partner(self):
        harmful = 0
        for seed in range(80):
            rng = random.Random(seed)
            small = draw_small(rng, 0.02, 3, UNDEFINED)
            try:
                told = harm(small)
                self.assertEqual(is_harmless(small), told is None)
            except (TooLong, TooMany):
                continue
            if told is None:
                continue
            play, place = told
            program = partner(small, play)
            try:
                row = machine_row(board_of(program), 0, 10 ** 5)
            except TooLarge:
                continue
            # Whatever the machine shows behind the undefined step, the room is to blame for it, and nobody else.
            row = row[:len(play) + 30]
            blames = explained(program, row)
            self.assertIn(blames, ([], [(1, place, len(view_row(row, play)))]))
            harmful += blames != []
        self.assertGreater(harmful, 15)

    def test_all_errors_are_of_one_kind(self):
        self.assertTrue(issubclass(Harmful, OwnharmError) and issubclass(OwnharmError, ValueError))


def views_up_to(row, at, room):
    return view_of(row[:at], room)


def view_row(row, play):
    """The crossings of the row up to the one with which the last event of the play comes in."""
    for many in range(1, len(row) + 1):
        if len(view_of(row[:many], 1)) >= len(play):
            return row[:many]
    return row


if __name__ == "__main__":
    unittest.main()
