"""Points [72] to [75] where the shortest plays are long: rooms that must come to a number first."""

import random
import unittest

from drawnsmall import beside_partner, draw_wish, exchanged_trap, number
from farrooms import TRAP, counting_room, draw_counting, held_room, kinds_of_rooms
from ownharm.alone import view_alone
from ownharm.errors import Harmful, TooMany
from ownharm.levels import are_alike, breaking, contents, harm, is_harmless, is_kept, parting
from ownharm.partners import is_play, parting_partner, partner
from ownharm.meaning import Run
from ownharm.rows import view_of
from ownharm.wishes import broken_at, is_small
from plainsmall import Big, plain_breaking, plain_parting, plain_walk
from smallrooms import small_room
from work import entered

NO_END = (1, ((0, "ends", None, 0, 0, None),))
# Each third give, and an end behind it at once.
THIRD = (3, ((0, "gives", None, 0, 9999, 1), (1, "gives", None, 0, 9999, 2), (2, "gives", None, 0, 9999, 0),
             (2, "ends", None, 0, 0, None)))


def levels_of(play):
    """How many runnings are open at once in a play."""
    now = most = 0
    for item in play:
        now += item[0] == "in"
        most = max(most, now)
        now -= item[0] == "gives"
    return most


class FarTest(unittest.TestCase):
    def check_harm(self, small, levels):
        """The play is one with so many levels and comes to harm at its place; how many items it has."""
        play, place = harm(small, levels)
        self.assertTrue(is_play(small, play))
        self.assertLessEqual(levels_of(play), levels or 30)
        self.assertEqual(view_alone(beside_partner(small), 1, play[::2]), play + [("undefined", *place)])
        return len(play), place

    def check_breaking(self, small, wish, levels):
        play = breaking(small, wish, levels)
        self.assertTrue(is_play(small, play))
        self.assertLessEqual(levels_of(play), levels or 30)
        self.assertEqual(broken_at(wish, play), len(play) - 1)
        return len(play)

    def check_parting(self, one, other, levels):
        play, told = parting(one, other, levels)
        self.assertTrue(is_play(one, play) and is_play(other, told))
        self.assertEqual(play[:-1], told[:-1])
        self.assertNotEqual(play[-1], told[-1])
        self.assertLessEqual(levels_of(play), levels or 30)
        return len(play)


class SmallNumberTest(FarTest):
    def beside_plain_harm(self, small, levels, most):
        try:
            _, items, places = plain_walk(small, levels, most)
        except Big:
            return 0
        self.assertIs(is_harmless(small, levels), items is None)
        if items is None:
            self.assertIsNone(harm(small, levels))
            return 0
        found, place = self.check_harm(small, levels)
        self.assertEqual(found, items)
        self.assertIn(place, places)
        return items

    def beside_plain_breaking(self, small, wish, levels, most):
        try:
            items = plain_breaking(small, wish, levels, [*range(6), 7, 8, 9, 10, 9998, 9999], most)
        except Big:
            return 0
        self.assertIs(is_kept(small, wish, levels), items is None)
        if items is None:
            self.assertIsNone(breaking(small, wish, levels))
            return 0
        self.assertEqual(self.check_breaking(small, wish, levels), items)
        return items

    def beside_plain_parting(self, one, other, levels, most):
        try:
            items, _ = plain_parting(one, other, levels, most)
        except Big:
            return 0
        self.assertIs(are_alike(one, other, levels), items is None)
        if items is None:
            self.assertIsNone(parting(one, other, levels))
            return 0
        self.assertEqual(self.check_parting(one, other, levels), items)
        return items

    def test_each_kind_of_room(self):
        for many in (2, 4, 7):
            harmful, ending, giving = kinds_of_rooms(many), kinds_of_rooms(many, "stop"), kinds_of_rooms(many, "give 3")
            for name in harmful:
                for levels in (1, 2, 3, 30):
                    with self.subTest(name=name, many=many, levels=levels):
                        far = self.beside_plain_harm(harmful[name], levels, 3000)
                        if levels < 3:
                            self.assertGreater(far, 2)
                        self.beside_plain_breaking(ending[name], NO_END, levels, 1500)
                        self.beside_plain_breaking(ending[name], THIRD, levels, 1500)
                        if name != "any answer":
                            self.beside_plain_parting(ending[name], giving[name], levels, 1500)

    def test_runnings_far_from_the_begin(self):
        # What the door e does is of use only where others are open below it.
        for many, most in [(1, 2), (2, 3), (3, 5)]:
            small = held_room(many, most)
            self.assertTrue(is_harmless(small, many))
            for levels in (many + 1, many + 2, 30):
                items, place = self.check_harm(small, levels)
                self.assertEqual((items, place), (2 * many + 4 * most + 1, ("e", 11)))
                self.assertIn(self.beside_plain_harm(small, levels, 3000), (items, 0))
        self.assertEqual(self.check_harm(held_room(29, 5), None)[0], 2 * 29 + 4 * 5 + 1)
        self.assertEqual(self.check_harm(held_room(1, 60), 2)[0], 2 + 4 * 60 + 1)
        self.assertTrue(is_harmless(held_room(30, 1)))

    def test_drawn_rooms_that_count(self):
        far = high = 0
        for seed in range(150):
            rng = random.Random(seed)
            small = draw_counting(rng, 7)
            self.assertTrue(is_small(small))
            for levels in (1, 2, 3, 4):
                items = self.beside_plain_harm(small, levels, 1500)
                far += items > 8
                high += items > 2 and levels_of(harm(small, levels)[0]) > 2
        self.assertGreater(far, 60)
        self.assertGreater(high, 10)

    def test_drawn_wishes_and_pairs(self):
        broken = parted = 0
        for seed in range(120):
            rng = random.Random(seed)
            small = draw_counting(rng, 5)
            calm = exchanged_trap(small, TRAP, rng.choice([("stop",), ("give", number(2)), ("let", "x", number(0))]))
            other = exchanged_trap(small, TRAP, rng.choice([("give", number(2)), ("let", "x", number(1))]))
            wish = rng.choice([draw_wish(rng), NO_END, THIRD])
            for levels in (1, 2, 3):
                broken += self.beside_plain_breaking(calm, wish, levels, 800) > 6
                parted += self.beside_plain_parting(calm, other, levels, 800) > 6
        self.assertGreater(broken, 20)
        self.assertGreater(parted, 20)


class GreatNumberTest(FarTest):
    def test_harm(self):
        for many in (40, 90, 99):
            small = counting_room(many)
            for levels in (1, 2, 3, None):
                self.assertEqual(self.check_harm(small, levels), (4 * many + 1, ("d", 6)))
        for many in (100, 150):
            for levels in (1, 2, None):
                with self.assertRaises(TooMany) as caught:
                    harm(counting_room(many), levels)
                self.assertEqual(caught.exception.most, 400)
                self.assertIs(is_harmless(counting_room(many), levels), False)

    def test_each_kind_of_room(self):
        # By levels 1, 2 and 30: how many items come ahead of harm, None if they are more than 400.
        items = {
            "plain": (397, 397, 397), "answer": (397, 397, 397), "any answer": (81, 81, 81), "right answer": (397, 397, 397),
            "two answers": (None, None, None), "two doors": (397, 397, 397), "two ways": (397, 397, 397),
            "ahead": (397, 395, 339), "up and down": (397, 391, 223), "loop": (265, 265, 265),
        }
        rooms = kinds_of_rooms(99)
        self.assertEqual(set(rooms), set(items))
        for name, small in rooms.items():
            for levels, told in zip((1, 2, None), items[name]):
                if told is None:
                    self.assertRaises(TooMany, harm, small, levels)
                else:
                    self.assertEqual(self.check_harm(small, levels)[0], told, (name, levels))

    def test_breaking_and_parting(self):
        for many, items in [(40, 162), (99, 398), (100, None), (150, None)]:
            ending, giving = counting_room(many, "stop"), counting_room(many, "give 3")
            for levels in (1, 2, None):
                self.assertIs(is_kept(ending, NO_END, levels), False)
                self.assertIs(are_alike(ending, giving, levels), False)
                if items is None:
                    self.assertRaises(TooMany, breaking, ending, NO_END, levels)
                    self.assertRaises(TooMany, parting, ending, giving, levels)
                else:
                    self.assertEqual(self.check_breaking(ending, NO_END, levels), items)
                    self.assertEqual(self.check_parting(ending, giving, levels), items)

    def test_a_harmful_room_ahead_of_its_wish(self):
        small = counting_room(30)
        for task in (lambda: breaking(small, NO_END), lambda: is_kept(small, NO_END), lambda: parting(small, small)):
            with self.assertRaises(Harmful) as caught:
                task()
            self.assertEqual(caught.exception.view, harm(small)[0])
        self.assertRaises(TooMany, is_kept, counting_room(100), NO_END)

    def test_partners_of_long_plays(self):
        play, _ = harm(counting_room(40))
        run = Run(partner(counting_room(40), play), 0)
        run.go(100000)
        self.assertEqual(view_of(run.row, 1), play)
        ending, giving = counting_room(20, "stop"), counting_room(20, "give 3")
        mate = parting_partner(ending, giving)
        for small, told in zip((ending, giving), parting(ending, giving)):
            run = Run((60, (mate, small)), 0)
            run.go(100000)
            self.assertEqual(view_of(run.row, 1)[:len(told)], told)

    def test_work(self):
        # As many functions are entered as the play is long, about, and not as there are ways to it.
        for many in (40, 90, 99, 100, 150):
            self.assertLess(entered(lambda: self.tried(counting_room(many), 1)), 20000)
            self.assertLess(entered(lambda: self.tried(counting_room(many), None)), 60000)
        for name, small in kinds_of_rooms(99).items():
            self.assertLess(entered(lambda: self.tried(small, 2)), 900000, name)

    def test_work_with_answers_that_matter_no_more(self):
        # Each answer but the last one is read once, or never: what waits is the same, whatever they were.
        small = small_room("""  uses o.p
  block s 0
  door d x 6
    a = (o.p(x) rest 6)
    s[0] = ((s[0] + a) rest 2)
    b = (o.p(a) rest 6)
    a = (o.p(0) rest 6)
    b = (o.p(b) rest 6)
    s[0] = ((s[0] + a) rest 2)
    a = (o.p(0) rest 6)
    s[0] = ((s[0] + a) rest 2)
    give 0
""")
        self.assertLess(entered(lambda: self.assertTrue(is_harmless(small))), 15000)
        self.assertLess(entered(lambda: self.assertEqual(contents(small), [((0,),), ((1,),)])), 15000)

    def test_locals_that_matter_behind_a_loop(self):
        # What was answered first is read behind all other asks alone.
        small = small_room("""  uses o.p
  block s 0
  door d x 2
    k = (o.p(0) rest 3)
    i = 0
    while (i < 2)
      if (x = 1)
        y = (o.p(k) rest 2)
      i = (i + 1)
    if (k = 2)
      if (x = 0)
        s[0] = 1
        give 0
      if (s[0] = 1)
        give late
    give k
""")
        for levels in (1, 2, 3):
            play, place = harm(small, levels)
            self.assertEqual((len(play), place), (plain_walk(small, levels)[1], ("d", 43)))
            self.assertEqual(self.check_harm(small, levels)[0], len(play))

    def tried(self, small, levels):
        try:
            harm(small, levels)
        except TooMany:
            pass


if __name__ == "__main__":
    unittest.main()
