"""Points [70] to [75]: what small rooms do beside all partners, in plays of any length."""

import random
import unittest

from drawnsmall import UNDEFINED, beside_partner, draw_small, draw_wish, exchanged_trap
from odd import odd_values
from ownharm.alone import view_alone
from ownharm.errors import BadLevels, BadWish, Harmful, OtherMake, TooLong, TooMany
from ownharm.levels import are_alike, breaking, closed_level, contents, harm, is_harmless, is_kept, parting
from ownharm.partners import is_play
from ownharm.wishes import broken_at, is_small
from plainsmall import Big, PlainTurns, plain_breaking, plain_parting, plain_walk
from smallrooms import EXAMPLE, asking, counting, nesting, small_room

NUMBERS = [*range(12), 9996, 9997, 9998, 9999]


# With one level and with two s is 0, 1, 2; with three levels the door d is answered while s is 2.
STEPPED = small_room("""  uses o.p
  block s 0
  door d x 1
    t = s[0]
    if (t = 1)
      give 0
    if (t = 3)
      give 0
    s[0] = 1
    y = (o.p(0) rest 1)
    if (s[0] = 2)
      s[0] = 3
      give 0
    if (t = 0)
      s[0] = 0
    give 0
  door e x 1
    t = s[0]
    if (1 < t)
      give 0
    s[0] = 2
    y = (o.p(0) rest 1)
    if (s[0] = 1)
      s[0] = 2
    else
      s[0] = t
    give 0
""")


class ContentsTest(unittest.TestCase):
    def test_example_with_each_number_of_levels(self):
        for levels in range(1, 31):
            self.assertEqual(contents(EXAMPLE, levels), [((s,),) for s in range(levels + 1)])
        self.assertEqual(contents(EXAMPLE), contents(EXAMPLE, 30))
        self.assertEqual(closed_level(EXAMPLE), 30)

    def test_one_level_that_adds_nothing_where_a_later_one_does(self):
        found = [len(contents(STEPPED, levels)) for levels in range(1, 31)]
        self.assertEqual(found[:3], [3, 3, 4])
        self.assertEqual([plain_walk(STEPPED, levels)[0] for levels in range(1, 5)],
                         [set(contents(STEPPED, levels)) for levels in range(1, 5)])
        self.assertEqual(closed_level(STEPPED), 3)
        self.assertEqual(found[3:], [4] * 27)

    def test_cells_that_are_not_set_come_first(self):
        small = small_room("""  block a - 3
  block b 0
  door d x 3
    if (x < 2)
      a[x] = x
    b[0] = x
""")
        found = contents(small)
        self.assertEqual(found, sorted(found, key=lambda told: [[-1 if one is None else one for one in cells] for cells in told]))
        self.assertEqual(found[0], ((None, 1), (1,)))
        self.assertIn(((None, 3), (0,)), found)
        self.assertEqual(set(found), plain_walk(small, 2)[0])

    def test_no_blocks_and_no_imports(self):
        self.assertEqual(contents(small_room("  door d x 6\n    give x")), [()])
        self.assertEqual(closed_level(small_room("  door d x 6\n    give x")), 1)

    def test_only_while_the_partner_has_control(self):
        # What is there only within a turn, behind an end or at an undefined step is none.
        small = small_room("""  uses o.p
  block s 0
  door d x 3
    s[0] = 5
    s[0] = 1
    if (x = 1)
      s[0] = 7
      stop
    if (x = 2)
      s[0] = 8
      give s[1]
    y = (o.p(0) rest 1)
    s[0] = 9
    s[0] = 0
    give 0
""")
        self.assertEqual(contents(small), [((0,),), ((1,),)])

    def test_200_and_201(self):
        self.assertEqual(contents(counting(199)), [((s,),) for s in range(200)])
        for task in [contents, harm, is_harmless, closed_level]:
            with self.assertRaises(TooMany) as caught:
                task(counting(200))
            self.assertEqual(caught.exception.most, 200)
        self.assertEqual(closed_level(counting(199)), 1)
        # Two hundred with asks on the way; there are so many only with all levels.
        both = nesting("    while (s[0] = 31)\n      y = 0\n")
        self.assertEqual(len(contents(both, 30)), 31)
        wide = small_room("""  uses o.p
  block s 0
  block b 0
  door d x 1
    s[0] = (s[0] + 1)
    y = (o.p(0) rest 1)
    if (s[0] = 12)
      if (b[0] < 188)
        b[0] = (b[0] + 1)
    s[0] = (s[0] - 1)
""")
        self.assertEqual(len(contents(wide, 11)), 12)
        with self.assertRaises(TooMany):
            contents(wide, 12)
        with self.assertRaises(TooMany):
            is_harmless(wide)

    def test_a_turn_of_2000_steps(self):
        # The let is 2 steps, each of 249 turns of the loop 8, its last test 4; then 1 at the end of the body.
        for last, steps in [("", 1999), ("    give i\n", 2000), ("    y = i\n", 2001), ("    give (i + 0)\n", 2002)]:
            small = small_room(f"  block s 0\n  door d x 1\n    i = 0\n    while (i < 249)\n      i = (i + 1)\n{last}")
            self.assertEqual(view_alone(beside_partner(small), 1, [("in", 0, 0)], steps)[-1][0], "gives")
            self.assertEqual(view_alone(beside_partner(small), 1, [("in", 0, 0)], steps - 1), [("in", 0, 0)])
            if steps <= 2000:
                self.assertEqual(contents(small), [((0,),)])
                self.assertTrue(is_harmless(small))
            else:
                for task in [contents, harm, is_harmless, closed_level]:
                    with self.assertRaises(TooLong):
                        task(small)

    def test_too_long_behind_an_answer_and_with_some_levels_alone(self):
        loop = small_room("  uses o.p\n  door d x 1\n    while (o.p(0) rest 2)\n      y = (o.p(1) rest 2)\n    while 1\n      y = 0")
        with self.assertRaises(TooLong):
            contents(loop)
        deep = nesting("    while (s[0] = 5)\n      y = 0\n")
        self.assertEqual(len(contents(deep, 4)), 5)
        self.assertIsNone(harm(deep, 4))
        for levels in (5, 6, None):
            with self.assertRaises(TooLong):
                contents(deep, levels)
            with self.assertRaises(TooLong):
                is_harmless(deep, levels)
        # Whatever the answer would be: also where an undefined step is nearer.
        near = small_room("  block s 0\n  door d x 2\n    if (x = 0)\n      give s[1]\n    while 1\n      y = 0")
        with self.assertRaises(TooLong):
            harm(near)


class DrawnTest(unittest.TestCase):
    def check(self, seeds, most, harmful):
        """Drawn rooms beside the plain walk; how many came to harm behind more than one item."""
        late = several = 0
        for seed in seeds:
            rng = random.Random(seed)
            small = draw_small(rng, 0.02 if harmful else 0, rng.choice([3, 4, 6]), UNDEFINED)
            counts = []
            for levels in (1, 2, 3):
                try:
                    told = plain_walk(small, levels, most)
                except Big:
                    break
                if told == "long":
                    for task in (contents, harm, is_harmless):
                        with self.assertRaises(TooLong):
                            task(small, levels)
                    break
                known, items, places = told
                found = contents(small, levels)
                self.assertEqual(set(found), known)
                self.assertEqual(len(found), len(known))
                counts.append(len(known))
                self.assertIs(is_harmless(small, levels), items is None)
                answer = harm(small, levels)
                if items is None:
                    self.assertIsNone(answer)
                else:
                    play, place = answer
                    self.assertEqual(len(play), items)
                    self.assertIn(place, places)
                    self.assertTrue(is_play(small, play))
                    self.assertEqual(view_alone(beside_partner(small), 1, play[::2]), play + [("undefined", *place)])
                    self.assertEqual(harm(small, levels), answer)
                    late += items > 1
            several += len(set(counts)) > 1
        return late, several

    def test_drawn_rooms(self):
        late, several = self.check(range(120), 2500, True)
        self.assertGreater(late, 30)
        self.assertGreater(several, 1)

    def test_levels_of_a_play(self):
        for seed in range(40):
            rng = random.Random(seed)
            small = draw_small(rng, 0, 4, UNDEFINED)
            for levels in (1, 2, 5, 30):
                try:
                    answer = harm(small, levels)
                except (TooLong, TooMany):
                    continue
                if answer is not None:
                    waits = most = 0
                    for item in answer[0]:
                        waits += item[0] == "in"
                        most = max(most, waits)
                        waits -= item[0] == "gives"
                    self.assertLessEqual(most, levels)

    def test_more_levels_lose_nothing(self):
        for seed in range(60):
            rng = random.Random(seed)
            small = draw_small(rng, 0, 7)
            try:
                found = [set(contents(small, levels)) for levels in (1, 2, 3, 8, 29, 30)]
            except (TooLong, TooMany):
                continue
            for fewer, more in zip(found, found[1:]):
                self.assertLessEqual(fewer, more)
            closed = closed_level(small)
            self.assertEqual(set(contents(small, closed)), found[-1])
            if closed > 1:
                self.assertLess(set(contents(small, closed - 1)), found[-1])


class HarmTest(unittest.TestCase):
    def test_the_shortest_play_and_its_place(self):
        small = small_room("  uses o.p\n  block s 0\n  door d x 3\n    y = (o.p(x) rest 3)\n    if (y = 2)\n      give s[x]\n    give 0")
        play, place = harm(small)
        self.assertEqual(len(play), 3)
        self.assertEqual((play[0][:2], play[1][:3], play[2][0]), (("in", 0), ("calls", 0, 0), "got"))
        self.assertEqual((play[0][2] % 3 > 0, play[2][1] % 3), (True, 2))
        self.assertEqual(place, ("d", 10))
        self.assertIsNone(harm(EXAMPLE))
        self.assertIs(is_harmless(EXAMPLE), True)

    def test_only_with_many_runnings_open(self):
        deep = nesting("    if (s[0] = 30)\n      y = s[1]\n")
        self.assertIsNone(harm(deep, 29))
        self.assertTrue(is_harmless(deep, 29))
        play, place = harm(deep, 30)
        self.assertEqual(len(play), 59)
        self.assertEqual(place, ("d", 12))
        self.assertEqual(harm(deep), (play, place))
        self.assertFalse(is_harmless(deep))
        self.assertTrue(is_harmless(nesting("    if (s[0] = 31)\n      y = s[1]\n")))

    def test_fewer_items_with_more_levels(self):
        # One running after another comes to it, too, but later than many at once.
        small = small_room("""  uses o.p
  block s 0
  door d x 1
    s[0] = (s[0] + 1)
    if (s[0] = 12)
      y = s[1]
    y = (o.p(0) rest 1)
    y = (o.p(0) rest 1)
""")
        sizes = [len(harm(small, levels)[0]) for levels in range(1, 31)]
        # A running that is over has had six items, one that is open has had two.
        self.assertEqual(sizes[0], 11 * 6 + 1)
        self.assertEqual(sizes[10], 10 * 2 + 6 + 1)
        self.assertEqual(sizes[11:], [23] * 19)
        self.assertEqual(sizes, sorted(sizes, reverse=True))
        for levels in (1, 2, 3):
            self.assertEqual(sizes[levels - 1], plain_walk(small, levels)[1])

    def test_behind_a_hundred_calls(self):
        play, place = harm(counting(100, 1, "    y = s[1]\n"))
        self.assertEqual(len(play), 201)
        self.assertEqual(place, ("d", 14))
        play, place = harm(asking(100, "    y = s[1]\n"))
        self.assertEqual(len(play), 201)
        self.assertEqual([item[0] for item in play], ["in"] + ["calls", "got"] * 100)
        self.assertEqual(play[1::2], [("calls", 0, 0, at) for at in range(1, 101)])

    def test_plays_of_400_items_and_more(self):
        for many, items in [(199, 399), (200, 401), (250, 501)]:
            small = asking(many, "    y = s[1]\n")
            self.assertIs(is_harmless(small), False)
            if items <= 400:
                self.assertEqual(len(harm(small)[0]), items)
            else:
                with self.assertRaises(TooMany) as caught:
                    harm(small)
                self.assertEqual(caught.exception.most, 400)
        # Two counts of a hundred, one behind the other.
        small = small_room("""  block s 0
  block b 0
  door d x 1
    if (s[0] < 99)
      s[0] = (s[0] + 1)
      give 0
    if (b[0] < 99)
      b[0] = (b[0] + 1)
      give 0
    y = b[1]
""")
        self.assertEqual(len(harm(small)[0]), 397)

    def test_which_rooms_come_to_harm_by_rests_alone(self):
        # The door sees the number modulo 5, the answer is seen modulo 4.
        small = small_room("  uses o.p\n  block s 0\n  door d x 5\n    if (x = 4)\n      if ((o.p(x) rest 4) = 3)\n        give s[1]\n    give 0")
        play, _ = harm(small)
        self.assertEqual((play[0][2] % 5, play[2][1] % 4), (4, 3))
        self.assertTrue(is_harmless(small_room(
            "  uses o.p\n  block s 0\n  door d x 5\n    if (x = 5)\n      give s[1]\n    if ((o.p(x) rest 4) = 4)\n      give s[1]")))


class WishTest(unittest.TestCase):
    def check_play(self, small, wish, play):
        self.assertTrue(is_play(small, play))
        self.assertEqual(broken_at(wish, play), len(play) - 1)

    def test_numbers_as_they_are(self):
        small = small_room("  uses o.p\n  door d x 3\n    give ((o.p(x) rest 2) + x)")
        for wish, items in [
            ((1, ((0, "in", None, 9999, 9999, None),)), 1), ((1, ((0, "in", 1, 0, 9999, None),)), None),
            ((1, ((0, "got", None, 5000, 5000, None),)), 3), ((1, ((0, "calls", 0, 2, 2, None),)), 2),
            ((1, ((0, "calls", 0, 3, 9999, None),)), None), ((1, ((0, "calls", 1, 0, 9999, None),)), None),
            ((1, ((0, "gives", None, 3, 3, None),)), 4), ((1, ((0, "gives", None, 4, 9999, None),)), None),
            ((1, ((0, "ends", None, 0, 0, None),)), None),
            # 3003 is 0 for the room, and only then it calls with 0.
            ((2, ((0, "in", None, 3001, 3003, 1), (1, "calls", None, 0, 0, None))), 2),
            ((2, ((0, "in", None, 3001, 3002, 1), (1, "calls", None, 0, 0, None))), 4),
            ((2, ((0, "in", None, 3001, 3002, 1), (1, "calls", None, 2, 2, None))), 2),
            ((2, ((0, "in", None, 3001, 3002, 1), (1, "calls", None, 1, 1, None))), 2),
            # Both ends of what a rule lets, and just beyond them.
            ((2, ((0, "in", None, 3001, 3001, 1), (1, "calls", None, 1, 1, None))), 2),
            ((2, ((0, "in", None, 3002, 3002, 1), (1, "calls", None, 1, 1, None))), 4),
            ((2, ((0, "in", None, 3000, 3000, 1), (1, "calls", None, 1, 1, None))), 4),
            ((2, ((0, "in", None, 0, 0, 1), (1, "calls", None, 0, 0, None))), 2),
            ((2, ((0, "in", None, 9999, 9999, 1), (1, "calls", None, 0, 0, None))), 2),
            ((2, ((0, "in", None, 9998, 9998, 1), (1, "calls", None, 0, 0, None))), 4),
            ((2, ((0, "got", None, 7000, 7000, 1), (1, "gives", None, 0, 0, None))), 4),
            # 7001 is 1 for the room: only a running that goes on later gives 0.
            ((2, ((0, "got", None, 7001, 7001, 1), (1, "gives", None, 0, 0, None))), 8),
        ]:
            play = breaking(small, wish)
            self.assertEqual(None if play is None else len(play), items, wish)
            self.assertIs(is_kept(small, wish), items is None)
            if play is not None:
                self.check_play(small, wish, play)

    def test_an_end_breaks(self):
        small = small_room("  block s 0\n  door d x 2\n    s[0] = (s[0] + 1)\n    if (s[0] = 3)\n      stop\n    give 7")
        wish = (1, ((0, "ends", None, 0, 0, None),))
        play = breaking(small, wish)
        self.assertEqual(len(play), 6)
        self.check_play(small, wish, play)
        self.assertEqual(play[-1], ("ends",))
        self.assertTrue(is_kept(small, (1, ((0, "ends", None, 1, 9999, None),))))

    def test_states_count(self):
        rules = tuple((state, "in", None, 0, 9999, state + 1) for state in range(5)) + ((5, "gives", None, 0, 9999, None),)
        play = breaking(EXAMPLE, (6, rules))
        self.assertEqual([item[0] for item in play], ["in", "calls"] * 5 + ["got", "gives"])
        self.check_play(EXAMPLE, (6, rules), play)
        # With one level each running is over ahead of the next one.
        self.assertEqual([item[0] for item in breaking(EXAMPLE, (6, rules), 1)], ["in", "calls", "got", "gives"] * 5)

    def test_drawn_wishes(self):
        counts = {}
        for seed in range(130):
            rng = random.Random(seed)
            small = draw_small(rng, 0, rng.choice([3, 4]))
            for levels in (1, 2, 3):
                try:
                    told = plain_walk(small, levels, 800)
                    if told == "long" or told[1] is not None:
                        break
                    wish = draw_wish(rng)
                    items = plain_breaking(small, wish, levels, NUMBERS, 1500)
                except Big:
                    break
                play = breaking(small, wish, levels)
                self.assertEqual(None if play is None else len(play), items)
                self.assertIs(is_kept(small, wish, levels), items is None)
                if play is not None:
                    self.check_play(small, wish, play)
                counts[items] = counts.get(items, 0) + 1
        self.assertTrue(sum(counts[items] for items in counts if items is not None and items > 2) > 20, counts)

    def test_long_plays(self):
        wish = (1, ((0, "gives", None, 1, 1, None),))
        self.assertEqual(len(breaking(counting(150), wish)), 302)
        # In one running: the give is the item behind the last answer.
        for many, items in [(199, 400), (200, 402)]:
            told = asking(many, "    give 5\n")
            wish = (1, ((0, "gives", None, 5, 5, None),))
            self.assertIs(is_kept(told, wish), False)
            if items <= 400:
                self.assertEqual(len(breaking(told, wish)), items)
            else:
                with self.assertRaises(TooMany) as caught:
                    breaking(told, wish)
                self.assertEqual(caught.exception.most, 400)
        heard = (2, ((0, "calls", 0, 200, 200, 1), (1, "got", None, 0, 9999, None)))
        self.assertEqual(len(breaking(asking(199), (2, ((0, "calls", 0, 199, 199, 1), (1, "got", None, 0, 9999, None))))), 399)
        with self.assertRaises(TooMany):
            breaking(asking(200), heard)
        self.assertIs(is_kept(asking(200), heard), False)

    def test_harmful_rooms(self):
        small = counting(3, 1, "    y = s[1]\n")
        wish = (1, ((0, "in", None, 0, 9999, None),))
        for task in (breaking, is_kept):
            with self.assertRaises(Harmful) as caught:
                task(small, wish)
            self.assertEqual(caught.exception.view, harm(small)[0])
            with self.assertRaises(TooMany) as caught:
                task(asking(200, "    y = s[1]\n"), wish)
            self.assertEqual(caught.exception.most, 400)
            # With few levels it is harmless.
            deep = nesting("    if (s[0] = 3)\n      y = s[1]\n")
            with self.assertRaises(Harmful):
                task(deep, wish, 3)
            task(deep, wish, 2)
            # What is too many or too long comes ahead of harm.
            with self.assertRaises(TooMany) as caught:
                task(counting(200, 1, "    y = s[1]\n"), wish)
            self.assertEqual(caught.exception.most, 200)
            with self.assertRaises(TooLong):
                task(small_room("  block s 0\n  door d x 2\n    if (x = 0)\n      give s[1]\n    while 1\n      y = 0"), wish)


def make(text):
    return small_room("  uses o.p\n  block s 0\n  door d x 4\n" + text)


class PartingTest(unittest.TestCase):
    def check_plays(self, one, other, plays):
        first, second = plays
        self.assertEqual(len(first), len(second))
        self.assertEqual(first[:-1], second[:-1])
        self.assertNotEqual(first[-1], second[-1])
        self.assertEqual(len(first) % 2, 0)
        self.assertTrue(is_play(one, first) and is_play(other, second))

    def test_told_otherwise_but_alike(self):
        for one, other in [
            (make("    give (x + x)"), make("    y = (2 * x)\n    give y")),
            (make("    give (o.p(x) rest 2)"), make("    if (o.p(x) rest 2)\n      give 1\n    give 0")),
            (make("    give (o.p(x) rest 6)"), make("    y = (o.p(x) rest 6)\n    s[0] = y\n    give s[0]")),
            (EXAMPLE, EXAMPLE),
            # Unlike blocks, sizes and params are no other make.
            (small_room("  block s 0\n  door d x 6\n    give (x rest 2)"), small_room("  door d k 2\n    give k")),
            (small_room("  block s 0\n  door d x 6\n    give (x rest 3)"), small_room("  door d k 3\n    give k")),
        ]:
            self.assertIsNone(parting(one, other))
            self.assertIs(are_alike(one, other), True)
            self.assertIs(are_alike(other, one), True)

    def test_rooms_that_part(self):
        for one, other, items in [
            (make("    give x"), make("    give (x rest 3)"), 2), (make("    give (o.p(x) rest 6)"), make("    give (o.p(x) rest 5)"), 4),
            (make("    stop"), make("    give 0"), 2), (make("    give 0"), make("    y = (o.p(0) rest 1)"), 2),
            (make("    y = (o.p(x) rest 1)"), make("    y = (o.p((x * x)) rest 1)"), 2),
            (counting(50), counting(51), 102),
            # The sizes 4 and 6 tell all numbers apart but those with equal rests.
            (small_room("  door d x 4\n    give (x = 3)"), small_room("  door d x 6\n    give (x = 3)"), 2),
            (nesting("    if (s[0] = 4)\n      give 1\n"), nesting("    if (s[0] = 4)\n      give 2\n"), 8),
        ]:
            plays = parting(one, other)
            self.check_plays(one, other, plays)
            self.assertEqual(len(plays[0]), items)
            self.assertIs(are_alike(one, other), False)
            back = parting(other, one)
            self.check_plays(other, one, back)
            self.assertEqual(len(back[0]), items)

    def test_levels(self):
        one, other = nesting("    if (s[0] = 4)\n      give 1\n"), nesting("    if (s[0] = 4)\n      give 2\n")
        self.assertIsNone(parting(one, other, 3))
        self.assertTrue(are_alike(one, other, 3))
        self.assertFalse(are_alike(one, other, 4))

    def test_other_make(self):
        base = ("m", (("o", "p"),), (), (), (("d", "x", 2, ()),))
        for other in [("n", *base[1:]), ("m", (), *base[2:]), ("m", (("o", "q"),), *base[2:]), ("m", (("o", "p"), ("o", "q")), *base[2:]),
                      ("m", (("k", "p"),), *base[2:]), (*base[:4], (("e", "x", 2, ()),)), (*base[:4], (("d", "x", 2, ()), ("e", "x", 1, ()))),
                      ]:
            self.assertTrue(is_small(other))
            for pair in [(base, other), (other, base)]:
                for task in (parting, are_alike):
                    with self.assertRaises(OtherMake):
                        task(*pair)
        two = ("m", (("o", "p"), ("o", "q")), (), (), (("d", "x", 2, ()), ("e", "x", 2, ())))
        for other in [("m", (("o", "q"), ("o", "p")), *two[2:]), (*two[:4], two[4][::-1])]:
            with self.assertRaises(OtherMake):
                are_alike(two, other)
        self.assertTrue(are_alike(base, (*base[:2], (("b", (None,)),), (("f", (), ()),), (("d", "k", 6, ()),))))

    def test_drawn_rooms(self):
        counts = {}
        for seed in range(110):
            rng = random.Random(seed)
            small = draw_small(rng, 0, 4, UNDEFINED)
            one = exchanged_trap(small, UNDEFINED, ("give", ("number", 5)))
            other = exchanged_trap(small, UNDEFINED, rng.choice([("give", ("number", 4)), ("stop",), ("store", "s", ("number", 0), ("number", 0))]))
            for levels in (1, 2, 3):
                try:
                    walks = [plain_walk(room, levels, 800) for room in (one, other)]
                    if "long" in walks or walks[0][1] is not None or walks[1][1] is not None:
                        break
                    items, pairs = plain_parting(one, other, levels, 2000)
                except Big:
                    break
                self.assertLessEqual(len(pairs), 200)
                plays = parting(one, other, levels)
                self.assertEqual(None if plays is None else len(plays[0]), items)
                if plays is not None:
                    self.check_plays(one, other, plays)
                self.assertIs(are_alike(one, other, levels), items is None)
                counts[items] = counts.get(items, 0) + 1
        self.assertGreater(sum(counts[items] for items in counts if items is not None and items > 2), 20, counts)

    def pair_counts(self, one_most, other_most):
        one = small_room(f"  block s 0\n  door d x 1\n    s[0] = ((s[0] + 1) rest {one_most})\n    give 0")
        other = small_room(f"  block s 0\n  door d x 1\n    s[0] = ((s[0] + 1) rest {other_most})\n    give 0")
        return one, other

    def test_200_pairs_and_one_more(self):
        for one_most, other_most, good in [(20, 10, True), (8, 25, True), (200, 1, True), (200, 200, True), (3, 67, False), (14, 15, False)]:
            one, other = self.pair_counts(one_most, other_most)
            if good:
                self.assertTrue(are_alike(one, other))
                self.assertIsNone(parting(one, other))
            else:
                for task in (parting, are_alike):
                    with self.assertRaises(TooMany) as caught:
                        task(one, other)
                    self.assertEqual(caught.exception.most, 200)

    def test_pairs_behind_unlike_plays_do_not_count(self):
        # They part at once, and what lies behind that is no pair.
        one = small_room("  block s 0\n  door d x 1\n    s[0] = ((s[0] + 1) rest 14)\n    give 0")
        other = small_room("  block s 0\n  door d x 1\n    s[0] = ((s[0] + 1) rest 15)\n    give 1")
        self.assertFalse(are_alike(one, other))
        self.assertEqual(parting(one, other), ([("in", 0, 0), ("gives", 0)], [("in", 0, 0), ("gives", 1)]))

    def test_plays_of_400_items_and_more(self):
        for many, items in [(199, 400), (200, 402)]:
            one, other = asking(many, "    give 7\n"), asking(many, "    give 8\n")
            self.assertFalse(are_alike(one, other))
            if items <= 400:
                self.assertEqual(len(parting(one, other)[0]), 400)
            else:
                with self.assertRaises(TooMany) as caught:
                    parting(one, other)
                self.assertEqual(caught.exception.most, 400)

    def test_the_first_harmful_room(self):
        good, bad, worse = counting(3), counting(3, 1, "    y = s[1]\n"), counting(2, 1, "    y = s[1]\n")
        for one, other, told in [(bad, worse, bad), (worse, bad, worse), (good, worse, worse), (bad, good, bad)]:
            for task in (parting, are_alike):
                with self.assertRaises(Harmful) as caught:
                    task(one, other)
                self.assertEqual(caught.exception.view, harm(told)[0])
        # The errors of the first room come ahead of those of the second one.
        long = small_room("  block s 0\n  door d x 1\n    while 1\n      y = 0")
        for task in (parting, are_alike):
            with self.assertRaises(Harmful):
                task(bad, long)
            with self.assertRaises(TooLong):
                task(long, bad)
            with self.assertRaises(TooMany):
                task(counting(200), long)
            with self.assertRaises(TooLong):
                task(long, counting(200))
            with self.assertRaises(TooLong):
                task(good, long)
            with self.assertRaises(OtherMake):
                task(long, asking(1))


class ErrorsTest(unittest.TestCase):
    def test_levels(self):
        wish = (1, ())
        for value in [value for value in odd_values() if value is not None] + [0, 31, -1, True, 30.0, "30"]:
            if isinstance(value, int) and not isinstance(value, bool) and 1 <= value <= 30:
                continue
            for task in [lambda: contents(EXAMPLE, value), lambda: harm(EXAMPLE, value), lambda: is_harmless(EXAMPLE, value),
                         lambda: breaking(EXAMPLE, wish, value), lambda: is_kept(EXAMPLE, wish, value),
                         lambda: parting(EXAMPLE, EXAMPLE, value), lambda: are_alike(EXAMPLE, EXAMPLE, value),
                         # Ahead of rooms that are not of one make, and of too many contents.
                         lambda: parting(EXAMPLE, counting(2), value), lambda: contents(counting(200), value)]:
                with self.assertRaises(BadLevels):
                    task()
        for levels in (1, 30, None):
            self.assertTrue(is_kept(EXAMPLE, wish, levels))
            self.assertTrue(is_kept(small=EXAMPLE, wish=wish, levels=levels))

    def test_wishes(self):
        for value in odd_values():
            if value != (1, ()):
                for task in (breaking, is_kept):
                    with self.assertRaises(BadWish):
                        task(EXAMPLE, value, "x")
                    with self.assertRaises(BadWish):
                        task(counting(200), value)

    def test_what_is_returned_is_new(self):
        found = contents(EXAMPLE, 3)
        found.clear()
        self.assertEqual(len(contents(EXAMPLE, 3)), 4)
        small = counting(3, 1, "    y = s[1]\n")
        play, _ = harm(small)
        play.clear()
        self.assertEqual(len(harm(small)[0]), 7)

    def test_the_plain_walk_itself(self):
        turns = PlainTurns(EXAMPLE)
        self.assertEqual(turns.turn(((0,),), None, ("in", 0, 5))[:2], (("calls", 0, 0, 0), ((1,),)))


if __name__ == "__main__":
    unittest.main()
