"""Points [65] to [69]: who did harm, told by the program and the row alone."""

import random
import unittest

from busyrooms import busy_program, draw_busy_room
from drawnrows import draw_face, draw_row
from drawnsections import draw_section
from grown import draw_bare_program, run_of, with_room
from harmful import Long, Unshown, draw_foreign, draw_harmful_program, plain_blames, shown_rows
from odd import odd_values
from ownharm.alone import view_alone
from ownharm.boards import board_of
from ownharm.changes import changed, changes_of
from ownharm.compiling import compiled
from ownharm.errors import (BadProgram, BadPrograms, BadRooms, BadRow, BadRows, BadSteps, Parted, TooLong, TooMany,
                            Unexplained)
from ownharm.explaining import beside, exchanged, explained, is_explained, sound_row
from ownharm.machine import machine_row
from ownharm.making import made
from ownharm.meaning import Run, source_row
from ownharm.rooms import face_of, node_at
from ownharm.roomtexts import program_of
from ownharm.rows import renumbered, view_of
from ownharm.viewtrees import tree_of

EXAMPLE = program_of("""depth 4
room main
  uses store.get
  door go x 10000
    give store.get(x)
room store
  block b 5
  door get i 10000
    give b[i]
""")
HARM = [("start", 3), ("call", 0, 1, 0, 3), ("back", 1, 0, 77), ("done", 77)]
BLAME = (1, ("get", 1), 2)
QUIET = [("start", 0), ("call", 0, 1, 0, 0), ("back", 1, 0, 5), ("done", 5)]


class ExampleTest(unittest.TestCase):
    def test_example(self):
        self.assertEqual(explained(EXAMPLE, HARM), [BLAME])
        self.assertEqual(explained(EXAMPLE, QUIET), [])
        for row, at in [([("start", 3), ("call", 0, 1, 0, 4)], 1), ([("start", 0), ("call", 0, 1, 0, 0), ("back", 1, 0, 6)], 2)]:
            with self.assertRaises(Unexplained) as caught:
                explained(EXAMPLE, row)
            self.assertEqual(caught.exception.at, at)

    def test_beginnings(self):
        self.assertEqual(explained(EXAMPLE, HARM[:1]), [])
        # The undefined step stands behind the last crossing: nobody is blamed.
        self.assertEqual(explained(EXAMPLE, HARM[:2]), [])
        self.assertEqual(explained(EXAMPLE, HARM[:3]), [BLAME])
        self.assertEqual(explained(EXAMPLE, tuple(HARM)), [BLAME])

    def test_foreign_rooms_are_not_blamed(self):
        self.assertEqual(explained(EXAMPLE, HARM, (1,)), [])
        self.assertEqual(explained(EXAMPLE, HARM, (0, 1)), [])
        self.assertEqual(explained(EXAMPLE, HARM, (0,)), [BLAME])
        self.assertEqual(explained(EXAMPLE, [("start", 3), ("call", 0, 1, 0, 4), ("end", 1)], (0,)), [(1, ("get", 1), 2)])
        with self.assertRaises(Unexplained) as caught:
            explained(EXAMPLE, [("start", 3), ("call", 0, 1, 0, 4), ("end", 1)], (1,))
        self.assertEqual(caught.exception.at, 1)

    def test_stopped_otherwise(self):
        # The source goes on where the row ends the run, and ends it where the row goes on.
        with self.assertRaises(Unexplained) as caught:
            explained(EXAMPLE, [("start", 0), ("end", 0)])
        self.assertEqual(caught.exception.at, 1)
        ending = program_of("depth 1\nroom a\n  uses b.d\n  door go x 1\n    stop\nroom b\n  door d y 1")
        with self.assertRaises(Unexplained) as caught:
            explained(ending, [("start", 0), ("call", 0, 1, 0, 0)])
        self.assertEqual(caught.exception.at, 1)
        self.assertEqual(explained(ending, [("start", 0), ("end", 0)]), [])

    def test_two_who_did_harm(self):
        program = program_of("""depth 2
room a
  uses b.d
  block n -
  door go x 10
    y = b.d(1)
    give n[y]
room b
  door d y 10
    give (3 rest 0)
""")
        row = [("start", 8), ("call", 0, 1, 0, 1), ("back", 1, 0, 0), ("done", 6)]
        self.assertEqual(explained(program, row), [(1, ("d", 1), 2), (0, ("go", 4), 3)])
        self.assertEqual(explained(program, row[:3]), [(1, ("d", 1), 2)])
        self.assertEqual(explained(program, row, (0,)), [(1, ("d", 1), 2)])
        self.assertEqual(explained(program, row, (1,)), [(0, ("go", 4), 3)])
        self.assertEqual(sound_row(program, row), row[:2])
        self.assertEqual(sound_row(program, row, (1,)), row[:3])
        self.assertEqual(sound_row(program, row, (0, 1)), row)


class StepsTest(unittest.TestCase):
    def test_just_enough(self):
        # go: local, ask; get: local, then the undefined cell: 3 steps done and one more tried.
        self.assertEqual(explained(EXAMPLE, HARM[:2], (), 2), [])
        with self.assertRaises(TooLong):
            explained(EXAMPLE, HARM[:2], (), 1)
        self.assertEqual(explained(EXAMPLE, HARM[:1], (), 0), [])
        for steps in (0, 1, 2, 3):
            with self.assertRaises(TooLong):
                explained(EXAMPLE, HARM, (), steps)
            with self.assertRaises(TooLong):
                is_explained(EXAMPLE, HARM, (), [BLAME], steps)
            with self.assertRaises(TooLong):
                sound_row(EXAMPLE, HARM, (), steps)
        _, most = plain_blames(EXAMPLE, HARM, (), 1000)
        self.assertGreater(most, 4)
        self.assertEqual(explained(EXAMPLE, HARM, (), most), [BLAME])
        self.assertEqual(sound_row(EXAMPLE, HARM, (), most), HARM[:2])
        with self.assertRaises(TooLong):
            # The first run has steps enough, a later one has not.
            sound_row(EXAMPLE, HARM, (), most - 1)

    def test_another_crossing_is_told_as_soon_as_it_is_shown(self):
        program = program_of("""depth 1
room a
  uses b.d
  door go x 10
    y = b.d(x)
    while 1
      y = 0
room b
  door d y 10
    give y
""")
        row = [("start", 1), ("call", 0, 1, 0, 2), ("end", 1)]
        with self.assertRaises(Unexplained) as caught:
            explained(program, row, (), 2)
        self.assertEqual(caught.exception.at, 1)
        with self.assertRaises(TooLong):
            explained(program, row, (), 1)
        with self.assertRaises(TooLong):
            explained(program, [("start", 1), ("call", 0, 1, 0, 1), ("back", 1, 0, 1), ("done", 7)])

    def test_against_the_words_step_by_step(self):
        told = 0
        for rng, program, foreign, number, row in shown_rows(range(60), 25):
            rooms = tuple(sorted(foreign))
            if rng.random() < 0.4 and len(row) > 1:
                at = rng.randrange(1, len(row))
                row = row[:at] + [row[at][:-1] + ((row[at][-1] + 1) % 10000,)] if row[at][0] != "end" else row
            try:
                blames, most = plain_blames(program, row, rooms, 5000)
            except Unshown as error:
                with self.assertRaises(Unexplained) as caught:
                    explained(program, row, rooms, 5000)
                self.assertEqual(caught.exception.at, error.args[0])
                self.assertIs(is_explained(program, row, rooms, [], 5000), False)
                told += 1
                continue
            except Long:
                with self.assertRaises(TooLong):
                    explained(program, row, rooms, 5000)
                continue
            self.assertEqual(explained(program, row, rooms, most), blames)
            if most > 0:
                with self.assertRaises(TooLong):
                    explained(program, row, rooms, most - 1)
                told += len(blames)
        self.assertGreater(told, 20)


class FactsTest(unittest.TestCase):
    def test_every_row_of_the_machine_is_explained(self):
        counts = {}
        for rng, program, foreign, number, row in shown_rows(range(300)):
            rooms = tuple(sorted(foreign))
            blames = explained(program, row, rooms)
            counts[len(blames)] = counts.get(len(blames), 0) + 1
            self.assertIs(is_explained(program, row, rooms, blames), True)
            self.assertEqual(sound_row(program, row, rooms), row[:blames[0][2]] if blames else row)
            blamed = [room for room, _, _ in blames]
            self.assertEqual(len(blamed + list(rooms)), len({*blamed, *rooms}))
            for at, (room, place, index) in enumerate(blames):
                self.assertTrue(0 < index < len(row) and (at == 0 or blames[at - 1][2] < index))
                # A real undefined step of the room's own text, beside what had come in up to there.
                node_at(program[1][room], place)
                events = view_of(row[:index], room)[::2]
                self.assertEqual(view_alone(program, room, events, 10 ** 5)[-1], ("undefined", *place))
        self.assertTrue(counts[0] > 50 and counts[1] > 40 and counts[2] > 5, counts)

    def test_fewer_crossings_and_more_foreign_rooms(self):
        used = 0
        for rng, program, foreign, number, row in shown_rows(range(300, 420), 60):
            rooms = tuple(sorted(foreign))
            blames = explained(program, row, rooms)
            for many in {1, len(row) // 2, len(row), *[index for _, _, index in blames], *[index + 1 for _, _, index in blames]} - {0}:
                self.assertEqual(explained(program, row[:many], rooms), [blame for blame in blames if blame[2] < many])
            for room in range(len(program[1])):
                if room not in rooms:
                    more = tuple(sorted([*rooms, room]))
                    self.assertEqual(explained(program, row, more), [blame for blame in blames if blame[0] != room])
                    used += 1
        self.assertGreater(used, 100)

    def test_rooms_that_do_no_harm_are_never_blamed(self):
        shown = 0
        for seed in range(60):
            rng = random.Random(seed)
            face = draw_face(rng)
            program = draw_bare_program(rng, face)
            # Made rooms never do an undefined step.
            row = draw_row(rng, face, 40)
            for room in range(len(face[2])):
                program = with_room(program, room, made(program, room, tree_of([view_of(row, room)])))
            program = (min(program[0], 4), program[1])
            foreign = draw_foreign(rng, program, 0.5)
            told = machine_row(board_of(program, foreign), row[0][1], 3000)[:80]
            self.assertEqual(explained(program, told, tuple(sorted(foreign))), [])
            shown += len(told)
        self.assertGreater(shown, 150)

    def test_rooms_changed_ahead_of_compiling(self):
        blamed = 0
        for seed in range(120):
            rng = random.Random(seed)
            source = draw_busy_room(rng, 30)
            program = busy_program(source)
            for _ in range(4):
                known = changes_of(source)
                if known:
                    source = changed(source, rng.choice(known))
            new = with_room(program, 1, source)
            foreign = {}
            if rng.random() < 0.5:
                _, wires, doors = face_of(program)
                foreign[2] = draw_section(rng, wires[2], doors[2])
            row = machine_row(board_of(new, foreign), seed, 3000)[:60]
            blames = explained(program, row, tuple(sorted(foreign)))
            blamed += len(blames)
            self.assertTrue(all(node_at(program[1][room], place) for room, place, _ in blames))
        self.assertGreater(blamed, 15)

    def test_numbered_otherwise(self):
        used = 0
        for rng, program, foreign, number, row in shown_rows(range(420, 520), 60):
            many = len(program[1])
            order = [0] + rng.sample(range(1, many), many - 1)
            sources = [None] * many
            for room, source in enumerate(program[1]):
                sources[order[room]] = source
            blames = explained(program, row, tuple(sorted(foreign)))
            told = explained((program[0], tuple(sources)), renumbered(row, order), tuple(sorted(order[room] for room in foreign)))
            self.assertEqual(told, [(order[room], place, at) for room, place, at in blames])
            used += order != list(range(many)) and blames != []
        self.assertGreater(used, 10)

    def test_exchanged_rooms(self):
        for rng, program, foreign, number, row in shown_rows(range(520, 580), 60):
            rooms = tuple(sorted(rng.sample(range(len(program[1])), rng.randint(0, len(program[1])))))
            new = exchanged(program, row, rooms)
            for room, source in enumerate(program[1]):
                if room in rooms:
                    self.assertEqual(new[1][room], made(program, room, tree_of([view_of(row, room)])))
                else:
                    self.assertEqual(new[1][room], source)
            run = run_of(new, row[0][1], 5000)
            self.assertTrue(run.fault is None or run.fault[0] not in rooms)
            if len(rooms) == len(program[1]):
                self.assertEqual(run.row[:len(row)], row)

    def test_another_number_at_one_crossing(self):
        used = 0
        for seed in range(120):
            rng = random.Random(seed)
            program = draw_harmful_program(rng, wild=0.1)
            run = run_of(program, 3)
            row = run.row[:40]
            for at in range(1, len(row)):
                if row[at][0] == "end":
                    continue
                other = row[:at] + [row[at][:-1] + ((row[at][-1] + rng.choice([1, 9999, 10])) % 10000,)]
                with self.assertRaises(Unexplained) as caught:
                    explained(program, other)
                self.assertEqual(caught.exception.at, at)
                self.assertIs(is_explained(program, other, (), []), False)
                # If the room that crosses is foreign, it may have done this.
                crosser = 0 if row[at][0] == "done" else row[at][1]
                self.assertEqual(explained(program, other, (crosser,)), [])
                used += 1
        self.assertGreater(used, 100)


class IsExplainedTest(unittest.TestCase):
    def test_lists_of_blames(self):
        self.assertIs(is_explained(EXAMPLE, HARM, (), [BLAME]), True)
        self.assertIs(is_explained(EXAMPLE, HARM, (), (BLAME,)), True)
        self.assertIs(is_explained(EXAMPLE, QUIET, (), []), True)
        self.assertIs(is_explained(EXAMPLE, QUIET, (), ()), True)
        for value in odd_values() + [[BLAME, BLAME], [], [list(BLAME)], [(1, ["get", 1], 2)], [(True, ("get", 1), 2)],
                                     [(1, ("get", True), 2)], [(1, ("get", 1), 2.0)], [(1, ("get", 1))], [(1, ("get", 1), 2, 3)],
                                     [(0, ("get", 1), 2)], [(1, ("go", 1), 2)], [(1, ("get", 0), 2)], [(1, ("get", 1), 1)],
                                     [(1, ("get", 1), 3)], BLAME, [(1, ("get", 1, 2), 2)], [(1, "get", 2)], {BLAME: 1}]:
            self.assertIs(is_explained(EXAMPLE, HARM, (), value), False, value)
            if value not in ([], ()):
                self.assertIs(is_explained(EXAMPLE, QUIET, (), value), False, value)

    def test_drawn_lists_left_out_doubled_and_exchanged(self):
        used = 0
        for rng, program, foreign, number, row in shown_rows(range(580, 760), 60):
            rooms = tuple(sorted(foreign))
            blames = explained(program, row, rooms)
            for at in range(len(blames)):
                wrong = [blames[:at] + blames[at + 1:], blames[:at] + [blames[at]] + blames[at:], blames[:at] + [None] + blames[at + 1:]]
                if len(blames) > 1:
                    wrong.append(blames[::-1])
                room, (part, index), shown = blames[at]
                wrong += [blames[:at] + [other] + blames[at + 1:] for other in [
                    (room + 1, (part, index), shown), (room, (part, index + 1), shown), (room, (part, index), shown + 1),
                    (room, ("nopart", index), shown)]]
                for value in wrong:
                    self.assertIs(is_explained(program, row, rooms, value), False)
                used += 1
        self.assertGreater(used, 50)

    def test_where_it_is_not_explained(self):
        for value in [[], [BLAME], None]:
            self.assertIs(is_explained(EXAMPLE, [("start", 3), ("call", 0, 1, 0, 4)], (), value), False)


class ErrorsTest(unittest.TestCase):
    def test_programs_and_rows(self):
        for value in odd_values():
            for function in (exchanged, explained, sound_row):
                with self.assertRaises(BadProgram):
                    function(value, None, None)
                with self.assertRaises(BadRow):
                    function(EXAMPLE, value, None)
            with self.assertRaises(BadProgram):
                is_explained(value, None, None, None, None)
            with self.assertRaises(BadRow):
                is_explained(EXAMPLE, value, None, None, None)
        for row in [[("start", 1), ("call", 0, 1, 1, 1)], [("start", 1), ("call", 0, 2, 0, 1)], [("start", 3), ("end", 1)],
                    [("start", 1), ("call", 0, 1, 0, 1), ("call", 1, 0, 0, 1)], [("start", 1), ("call", 0, 1, 0, 1), ("deep", 1, 0, 0, 1)]]:
            for function in (exchanged, explained, sound_row):
                with self.assertRaises(BadRow):
                    function(EXAMPLE, row, None)

    def test_rooms_and_steps(self):
        for value in odd_values() + [(0, 0), (1, 0), (2,), (-1,), (True,), (0, True), [0], [0, 1], (0, 1, 2), (False, 1), ("0",)]:
            if value == () and isinstance(value, tuple) or value == (0,) and not isinstance(value[0], bool):
                continue
            with self.assertRaises(BadRooms, msg=value):
                exchanged(EXAMPLE, HARM, value)
            for function in (explained, sound_row):
                with self.assertRaises(BadRooms):
                    function(EXAMPLE, HARM, value, None)
            with self.assertRaises(BadRooms):
                is_explained(EXAMPLE, HARM, value, None, None)
            if isinstance(value, int) and not isinstance(value, bool) and 0 <= value <= 10 ** 6:
                continue
            for function in (explained, sound_row):
                with self.assertRaises(BadSteps):
                    function(EXAMPLE, HARM, (), value)
            with self.assertRaises(BadSteps):
                is_explained(EXAMPLE, HARM, (), None, value)
        for steps in (-1, 10 ** 6 + 1):
            with self.assertRaises(BadSteps):
                explained(EXAMPLE, HARM, (1,), steps)
        self.assertEqual(explained(EXAMPLE, HARM, (), 10 ** 6), [BLAME])
        self.assertEqual(exchanged(EXAMPLE, HARM, ()), EXAMPLE)

    def test_too_many(self):
        program = program_of("depth 1\nroom a\n  uses b.d\n  door go x 1\n    while 1\n      y = b.d(3)\nroom b\n  block n -\n"
                             "  door d y 10\n    give n[0]")
        row = [("start", 0)]
        for at in range(401):
            row += [("call", 0, 1, 0, 3), ("back", 1, 0, at)]
        for rooms in [(0,), (1,), (0, 1)]:
            with self.assertRaises(TooMany) as caught:
                exchanged(program, row, rooms)
            self.assertEqual(caught.exception.most, 400)
            for function in (explained, sound_row):
                with self.assertRaises(TooMany):
                    function(program, row, rooms)
            with self.assertRaises(TooMany):
                is_explained(program, row, rooms, [])
        # Each parameter comes ahead of what the rooms do.
        for function in (explained, sound_row):
            with self.assertRaises(BadSteps):
                function(program, row, (0,), -1)
        with self.assertRaises(BadSteps):
            is_explained(program, row, (0,), [], -1)
        with self.assertRaises(BadRooms):
            explained(program, row, (0, 2), -1)
        # The room is made only behind its blame.
        with self.assertRaises(TooMany):
            explained(program, row)
        with self.assertRaises(TooMany):
            beside([program], [row], (1,))
        self.assertEqual(explained(program, row[:799]), [(1, ("d", 1), 2)])
        self.assertEqual(exchanged(program, row, ()), program)
        # As long as no room is made, the row may be of any length.
        long = program_of("depth 1\nroom a\n  uses b.d\n  door go x 1\n    while 1\n      y = b.d(3)\nroom b\n  door d y 10\n    give 1")
        told = source_row(long, 0, 9000)
        self.assertGreater(len(told), 1900)
        self.assertEqual(explained(long, told), [])

    def test_nothing_is_changed(self):
        row, blames = list(HARM), [BLAME]
        exchanged(EXAMPLE, row, (0, 1))
        explained(EXAMPLE, row)
        is_explained(EXAMPLE, row, (), blames)
        told = sound_row(EXAMPLE, row, (1,))
        told.append(None)
        beside([EXAMPLE], [row], (0,))
        self.assertEqual((row, blames), (HARM, [BLAME]))
        self.assertEqual(sound_row(EXAMPLE, row, (1,)), HARM)


class BesideTest(unittest.TestCase):
    def test_rooms_for_several_programs(self):
        other = program_of("""depth 9
room first
  uses b.get
  door go k 7
    give b.get((b.get(k) + 1))
room b
  door get i 3
    give i
""")
        rows = [[("start", 3), ("call", 0, 1, 0, 3), ("back", 1, 0, 77), ("done", 77)],
                [("start", 3), ("call", 0, 1, 0, 3), ("back", 1, 0, 77), ("call", 0, 1, 0, 78), ("back", 1, 0, 5), ("done", 5)]]
        programs = beside([EXAMPLE, other], rows, (1,))
        tree = tree_of([view_of(row, 1) for row in rows])
        self.assertEqual(programs, [with_room(EXAMPLE, 1, made(EXAMPLE, 1, tree)), with_room(other, 1, made(other, 1, tree))])
        self.assertEqual(programs[0][1][1][0], "store")
        self.assertEqual(programs[1][1][1][0], "b")
        for program, row in zip(programs, rows):
            self.assertEqual(source_row(program, 3, 1000), row)
        self.assertEqual(beside((EXAMPLE, other), tuple(tuple(row) for row in rows), (1,)), programs)
        self.assertEqual(beside([EXAMPLE, other], rows, ()), [EXAMPLE, other])

    def test_sections_beside_several_programs(self):
        used = several = 0
        for seed in range(150):
            rng = random.Random(seed)
            program = draw_harmful_program(rng, rng.choice([2, 3]), 0.3)
            chosen = rng.randrange(len(program[1]))
            _, wires, doors = face_of(program)
            section = draw_section(rng, wires[chosen], doors[chosen])
            programs, rows = [], []
            for _ in range(rng.randint(1, 6)):
                # The other rooms and the depth are unlike; the wires of the foreign one are as they were.
                sources = [source if room == chosen or rng.random() < 0.4 else
                           (*source[:4], tuple((*door[:3], (("give", ("number", rng.randrange(3))),)) for door in source[4]))
                           for room, source in enumerate(program[1])]
                programs.append((rng.choice([1, 2, 5]), tuple(sources)))
                row = machine_row(board_of(programs[-1], {chosen: section}), rng.choice([0, 3]), 2000)[:80]
                rows.append(sound_row(programs[-1], row, (chosen,)))
            for told, row in zip(beside(programs, rows, (chosen,)), rows):
                self.assertEqual(run_of(told, row[0][1], 50000).row[:len(row)], row)
                used += len(view_of(row, chosen)) > 1
            several += len({repr(view_of(row, chosen)) for row in rows}) > 2
        self.assertGreater(used, 100)
        self.assertGreater(several, 10)

    def test_views_that_part(self):
        program = (4, EXAMPLE[1])
        one, other = HARM, HARM[:2] + [("back", 1, 0, 78), ("done", 78)]
        for rows, told in [([one, other], (0, 1, 1)), ([one[:2], one, other], (1, 2, 1)), ([one, one, other], (0, 2, 1))]:
            with self.assertRaises(Parted) as caught:
                beside([program] * len(rows), rows, (1,))
            self.assertEqual((caught.exception.one, caught.exception.other, caught.exception.at), told)
        # Room 0 is the first one whose views part; without it it is room 1.
        third = HARM[:1] + [("end", 0)]
        for rooms, told in [((0, 1), (0, 1, 1)), ((1,), (0, 2, 1)), ((0,), (0, 1, 1))]:
            with self.assertRaises(Parted) as caught:
                beside([program] * 3, [one, third, other], rooms)
            self.assertEqual((caught.exception.one, caught.exception.other, caught.exception.at), told)

    def test_views_that_part_are_told_ahead_of_too_many(self):
        program = program_of("depth 1\nroom a\n  uses b.d\n  door go x 1\nroom b\n  door d y 10")
        long = [("start", 0)]
        for at in range(401):
            long += [("call", 0, 1, 0, 3), ("back", 1, 0, at % 2)]
        short = [("start", 1), ("call", 0, 1, 0, 3), ("back", 1, 0, 7)]
        with self.assertRaises(TooMany):
            beside([program, program], [long, short], (0,))
        with self.assertRaises(Parted):
            beside([program, program], [long, short], (0, 1))
        with self.assertRaises(TooMany):
            beside([program], [long], (0, 1))

    def test_errors_and_their_order(self):
        for value in odd_values():
            with self.assertRaises(BadPrograms):
                beside(value, None, None)
            with self.assertRaises(BadPrograms):
                beside([EXAMPLE, value], None, None)
            with self.assertRaises(BadRows):
                beside([EXAMPLE], value, None)
            with self.assertRaises(BadRows):
                beside([EXAMPLE, EXAMPLE], [HARM, value], None)
            if value not in ((), (0,)) or value == [] or (value and isinstance(value[0], bool)):
                with self.assertRaises(BadRooms, msg=value):
                    beside([EXAMPLE], [HARM], value)
        with self.assertRaises(BadPrograms):
            beside([EXAMPLE] * 7, [HARM] * 7, ())
        self.assertEqual(beside([EXAMPLE] * 6, [HARM] * 6, ()), [EXAMPLE] * 6)
        for rows in [[], [HARM], [HARM] * 3, [HARM, [("start", 1), ("call", 0, 1, 1, 1)]], [[("start", 1), ("end", 1)], HARM]]:
            with self.assertRaises(BadRows):
                beside([EXAMPLE, EXAMPLE], rows, None)

    def test_rooms_that_are_unlike(self):
        def program(text):
            return program_of("depth 1\n" + text)

        one = program("room a\n  uses b.d\n  door go x 1\nroom b\n  door d y 1\n  door e y 1\nroom c\n  door f x 1")
        two_rooms = program("room a\n  uses b.d\n  door go x 1\nroom b\n  door d y 1\n  door e y 1")
        more_doors = program("room a\n  uses b.d\n  door go x 1\nroom b\n  door d y 1\n  door e y 1\n  door g y 1\nroom c\n  door f x 1")
        other_wire = program("room a\n  uses b.e\n  door go x 1\nroom b\n  door d y 1\n  door e y 1\nroom c\n  door f x 1")
        two_wires = program("room a\n  uses b.d b.e\n  door go x 1\nroom b\n  door d y 1\n  door e y 1\nroom c\n  door f x 1")
        named = program("room q\n  uses r.k\n  door l x 9\nroom r\n  door k y 1\n  door e z 1\nroom c\n  uses q.l\n  door f x 1")
        row = [("start", 0)]
        for programs, rooms, good in [
            ([one, two_rooms], (0, 1), True), ([one, two_rooms], (2,), False), ([two_rooms, one], (0, 1, 2), False),
            ([one, more_doors], (0, 2), True), ([one, more_doors], (1,), False), ([one, other_wire], (0,), False),
            ([one, other_wire], (1, 2), True), ([one, two_wires], (0,), False), ([one, one, two_wires], (0, 1), False),
            ([one, named], (0, 1), True), ([one, named], (2,), False), ([named, one, two_rooms], (0,), True),
        ]:
            if good:
                found = beside(programs, [row] * len(programs), rooms)
                self.assertEqual([told[0] for told in found], [told[0] for told in programs])
            else:
                with self.assertRaises(BadRooms):
                    beside(programs, [row] * len(programs), rooms)


class CompiledTest(unittest.TestCase):
    def test_what_was_exchanged_is_shown_by_the_machine_again(self):
        for rng, program, foreign, number, row in shown_rows(range(760, 800), 40):
            rooms = tuple(sorted({*foreign, *[room for room, _, _ in explained(program, row, tuple(sorted(foreign)))]}))
            new = exchanged(program, row, rooms)
            run = Run(new, number)
            self.assertTrue(run.reach(len(row), 10 ** 5))
            self.assertEqual(machine_row(board_of(new), number, 100 * run.steps + 300)[:len(row)], row)
            self.assertEqual([compiled(new, room) for room in range(len(program[1])) if room not in rooms],
                             [compiled(program, room) for room in range(len(program[1])) if room not in rooms])


if __name__ == "__main__":
    unittest.main()
