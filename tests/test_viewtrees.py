"""Points [60] and [61]: trees, trees of views, what they tell, the least ones."""

import random
import unittest

from drawn import draw_program
from drawnrows import draw_face, draw_views
from odd import odd_values
from ownharm.errors import BadEvents, BadTree, BadViews, Parted
from ownharm.meaning import source_row
from ownharm.rows import is_view, view_of
from ownharm.viewtrees import act_behind, is_tree, least_tree, tree_of
from plaintrees import (ENDS, draw_event, draw_tree, meaning, meanings, renumbered, tells, unfolded, ways_of,
                        with_dead_ends)

IN, GOT, CALLS, GIVES = ("in", 0, 3), ("got", 4), ("calls", 1, 0, 5), ("gives", 6)
# in 0 3 leads to 1, in 5 0 to 2; from 1 got 4 leads to 3; from 2 got 4 leads to 3, in 1 1 to 4.
TREE = ((None, ((IN, 1), (("in", 5, 0), 2))), (CALLS, ((GOT, 3),)), (("calls", 5, 5, 9999), ((GOT, 3), (("in", 1, 1), 4))),
        (GIVES, ()), (ENDS, ()))
EXAMPLE = ((None, ((("in", 0, 3), 1), (("in", 0, 5), 2))), (("gives", 4), ()), (None, ()))
SHARED = ((None, ((("in", 0, 3), 1), (("in", 0, 5), 2))), (("gives", 4), ()), (("gives", 4), ()))


def with_node(tree, at, node):
    return tree[:at] + (node,) + tree[at + 1:]


def chain(many):
    """A tree of so many nodes in a row."""
    nodes = [(None, ((("in", 0, 0), 1),))]
    for at in range(1, many):
        nodes.append((CALLS, ((("got", at), at + 1),) if at < many - 1 else ()))
    return tuple(nodes)


def fan(many):
    """A tree with so many children of the root, all of which tell something else."""
    return ((None, tuple((("in", 0, at), at + 1) for at in range(many))),) + tuple((("gives", at), ()) for at in range(many))


class IsTreeTest(unittest.TestCase):
    def test_trees(self):
        for tree in [TREE, EXAMPLE, SHARED, ((None, ()),), chain(400), fan(400), chain(3000), fan(2000),
                     ((None, ((IN, 2),)), (GIVES, ()), (CALLS, ((("got", 0), 1), (("got", 9999), 1), (("in", 5, 9999), 1)))),
                     ((None, ((IN, 1),)), (None, ()))]:
            self.assertIs(is_tree(tree), True)

    def test_drawn_trees_in_any_numbering(self):
        for seed in range(60):
            rng = random.Random(seed)
            tree = draw_tree(rng, 30)
            self.assertIs(is_tree(tree), True)
            self.assertIs(is_tree(renumbered(tree, rng)), True)

    def test_odd_values(self):
        for value in odd_values():
            self.assertIs(is_tree(value), False)
        for node in odd_values():
            self.assertIs(is_tree((node,)), False)
            self.assertIs(is_tree(with_node(TREE, 3, node)), False)
            self.assertIs(is_tree(with_node(TREE, 1, (node, ((GOT, 3),)))), False, node)
            self.assertIs(is_tree(with_node(TREE, 1, (CALLS, (node,)))), False)
            self.assertIs(is_tree(with_node(TREE, 1, (CALLS, ((GOT, 3), node)))), False)
            for index in (0, 1):
                child = [GOT, 3]
                child[index] = node
                self.assertIs(is_tree(with_node(TREE, 1, (CALLS, (tuple(child),)))), index == 0 and node in (("got", 3), ("in", 0, 3)))
            self.assertIs(is_tree(with_node(TREE, 1, (CALLS, node))), node == (), node)

    def test_lists_for_tuples(self):
        for tree in [list(TREE), with_node(TREE, 1, [CALLS, ((GOT, 3),)]), with_node(TREE, 1, (list(CALLS), ((GOT, 3),))),
                     with_node(TREE, 1, (CALLS, [(GOT, 3)])), with_node(TREE, 1, (CALLS, ([GOT, 3],))),
                     with_node(TREE, 1, (CALLS, ((list(GOT), 3),))), with_node(TREE, 4, (["ends"], ()))]:
            self.assertIs(is_tree(tree), False)

    def test_no_numbers(self):
        for node in [(("calls", True, 0, 5), ((GOT, 3),)), (("calls", 1, False, 5), ((GOT, 3),)), (("calls", 6, 0, 5), ((GOT, 3),)),
                     (("calls", 1, 6, 5), ((GOT, 3),)), (("calls", 1, 0, 10000), ((GOT, 3),)), (("calls", -1, 0, 5), ((GOT, 3),)),
                     (("gives", True), ((GOT, 3),)), (("gives", 10000), ((GOT, 3),)), (("gives", 1, 1), ((GOT, 3),)),
                     (CALLS, ((("got", True), 3),)), (CALLS, ((("got", 10000), 3),)), (CALLS, ((("got", -1), 3),)),
                     (CALLS, ((("in", 6, 1), 3),)), (CALLS, ((("in", 1, True), 3),)), (CALLS, ((("in", False, 1), 3),)),
                     (CALLS, ((("calls", 1, 1, 1), 3),)), (CALLS, ((GOT, 3.0),)), (CALLS, ((GOT, True), (("got", 5), 3))),
                     (CALLS, ((GOT, 3, 3),)), (CALLS, ((GOT,),)), (CALLS,), (CALLS, ((GOT, 3),), ())]:
            self.assertIs(is_tree(with_node(TREE, 1, node)), False, node)

    def test_the_root(self):
        for act in [CALLS, GIVES, ENDS]:
            self.assertIs(is_tree(with_node(TREE, 0, (act, TREE[0][1]))), False)
            self.assertIs(is_tree(((act, ()),)), False)
        self.assertIs(is_tree(with_node(TREE, 0, (None, ((GOT, 1), (("in", 5, 0), 2))))), False)
        self.assertIs(is_tree(((None, ((GOT, 1),)), (GIVES, ()))), False)
        self.assertIs(is_tree(()), False)

    def test_the_order_of_the_children(self):
        events = [("got", 0), ("got", 1), ("in", 0, 0), ("in", 0, 9), ("in", 1, 0)]
        for one in range(5):
            for other in range(5):
                node = (CALLS, ((events[one], 3), (events[other], 3)))
                self.assertIs(is_tree(with_node(TREE, 1, node)), one < other)
        # The greater index first: only the events must ascend.
        self.assertIs(is_tree(with_node(TREE, 1, (CALLS, ((("got", 0), 4), (("got", 1), 3))))), True)
        self.assertIs(is_tree(with_node(TREE, 1, (CALLS, ((("got", 0), 3), (("got", 0), 4))))), False)

    def test_indexes(self):
        for index in [0, -1, 5, 10 ** 99, None, "3"]:
            self.assertIs(is_tree(with_node(TREE, 1, (CALLS, ((("got", 1), index), (GOT, 3))))), False)
        self.assertIs(is_tree(with_node(TREE, 1, (CALLS, ((("got", 1), 4), (GOT, 3))))), True)

    def test_nobodys_child(self):
        self.assertIs(is_tree(TREE + ((GIVES, ()),)), False)
        self.assertIs(is_tree(TREE + ((CALLS, ((GOT, 3),)),)), False)
        self.assertIs(is_tree(with_node(TREE, 2, (CALLS, ((GOT, 3),)))), False)
        self.assertIs(is_tree(((None, ()), (GIVES, ()))), False)

    def test_ways_back(self):
        self.assertIs(is_tree(with_node(TREE, 3, (GIVES, ((GOT, 1),)))), False)
        self.assertIs(is_tree(with_node(TREE, 3, (GIVES, ((GOT, 3),)))), False)
        self.assertIs(is_tree(with_node(TREE, 3, (GIVES, ((GOT, 0),)))), False)
        # A circle to which no way leads.
        self.assertIs(is_tree(TREE + ((CALLS, ((GOT, 6),)), (CALLS, ((GOT, 5),)))), False)
        long = chain(3000)
        self.assertIs(is_tree(long[:-1] + ((GIVES, ((GOT, 5),)),)), False)

    def test_ends_have_no_children(self):
        for act in [None, ENDS]:
            self.assertIs(is_tree(with_node(TREE, 2, (act, TREE[2][1]))), False)
            self.assertIs(is_tree(with_node(TREE, 3, (act, ()))), True)


def plain_tree(views):
    """The tree by plain dicts: numbers by the events on the way."""
    numbers, acts = {(): 0}, {}
    for view in views:
        for at in range(0, len(view), 2):
            way = tuple(view[:at + 1:2])
            numbers.setdefault(way, len(numbers))
            if at + 1 < len(view):
                acts[way] = view[at + 1]
    nodes = []
    for way in sorted(numbers, key=numbers.get):
        below = [(other[-1], numbers[other]) for other in numbers if other and other[:-1] == way]
        nodes.append((acts.get(way), tuple(sorted(below))))
    return tuple(nodes)


class TreeOfTest(unittest.TestCase):
    def test_example(self):
        self.assertEqual(tree_of([[("in", 0, 3), ("gives", 4)], [("in", 0, 5)]]), EXAMPLE)

    def test_no_views_and_empty_ones(self):
        for views in [[], (), [[]], [(), [], ()]]:
            self.assertEqual(tree_of(views), ((None, ()),))

    def test_numbers_are_those_of_the_views(self):
        first = [("in", 1, 0), ("calls", 1, 0, 5), ("got", 9), ("gives", 1)]
        second = [("in", 0, 0), ("gives", 2)]
        third = [("in", 1, 0), ("calls", 1, 0, 5), ("got", 3), ("ends",)]
        self.assertEqual(tree_of([first, second, third]), (
            (None, ((("in", 0, 0), 3), (("in", 1, 0), 1))), (("calls", 1, 0, 5), ((("got", 3), 4), (("got", 9), 2))),
            (("gives", 1), ()), (("gives", 2), ()), (ENDS, ())))
        self.assertEqual(tree_of([first[:3], first]), tree_of([first]))

    def test_drawn_views(self):
        for seed in range(60):
            rng = random.Random(seed)
            face = draw_face(rng)
            row, views = draw_views(rng, face, 60)
            for view in views:
                self.assertEqual(tree_of([view]), plain_tree([view]))
                cuts = [view[:rng.randrange(len(view) + 1)] for _ in range(4)]
                self.assertEqual(tree_of([*cuts, view]), plain_tree([*cuts, view]))
                self.assertEqual(tree_of([tuple(one) for one in [*cuts, view]]), plain_tree([*cuts, view]))
                # A view and its beginnings have one tree.
                self.assertEqual(tree_of([view, *cuts]), tree_of([view]))

    def test_views_of_one_room_in_many_runs(self):
        found = 0
        for seed in range(120):
            program = draw_program(seed)
            rows = [source_row(program, number, 60) for number in (0, 3, 7, 7, 9999)]
            for room in range(len(program[1])):
                views = [view_of(row, room) for row in rows]
                if len(program[1]) > 1 or all(view[:1] == [] or view[0][0] == "in" for view in views):
                    tree = tree_of(views)
                    self.assertEqual(tree, plain_tree(views))
                    self.assertTrue(is_tree(tree))
                    found += len(tree)
        self.assertGreater(found, 500)

    def test_how_many_views(self):
        views = [[("in", 0, at), ("gives", at)] for at in range(201)]
        self.assertEqual(len(tree_of(views[:200])), 201)
        with self.assertRaises(BadViews):
            tree_of(views)
        with self.assertRaises(BadViews):
            tree_of([[]] * 201)

    def test_no_list_of_views(self):
        for value in odd_values():
            if not (isinstance(value, (list, tuple)) and all(is_view(one) for one in value) and len(value) < 201):
                with self.assertRaises(BadViews, msg=value):
                    tree_of(value)
            if not is_view(value):
                with self.assertRaises(BadViews):
                    tree_of([[], value])
        # What is wrong is told ahead of views that part.
        with self.assertRaises(BadViews):
            tree_of([[IN, GIVES], [IN, CALLS], [GOT]])

    def test_views_that_part(self):
        one = [IN, CALLS, GOT, GIVES, IN, CALLS]
        early = [IN, ("calls", 1, 0, 6), GOT]
        late = [IN, CALLS, GOT, GIVES, IN, GIVES]
        ended = [IN, CALLS, GOT, ENDS]
        other = [("in", 0, 4), GIVES]
        for views, told in [
            ([one, early], (0, 1, 1)), ([one, late], (0, 1, 5)), ([one, ended], (0, 1, 3)), ([other, one, late], (1, 2, 5)),
            ([one[:3], one, late], (1, 2, 5)), ([one[:2], one, early], (0, 2, 1)), ([late, one, early], (0, 1, 5)),
            ([one, one, other, late, early], (0, 3, 5)), ([[], one[:1], early, one], (2, 3, 1)),
            ([other, one, ended, other, early], (1, 2, 3)), ([one[:4], ended], (0, 1, 3)), ([one, [IN, GIVES]], (0, 1, 1)),
        ]:
            with self.assertRaises(Parted) as caught:
                tree_of(views)
            self.assertEqual((caught.exception.one, caught.exception.other, caught.exception.at), told)

    def test_drawn_views_that_part(self):
        found = 0
        for seed in range(200):
            rng = random.Random(seed)
            views = []
            for _ in range(rng.randint(2, 6)):
                _, drawn = draw_views(random.Random(seed % 7), draw_face(random.Random(seed), 3), 30)
                view = [item for item in drawn[0][:rng.randrange(30)]]
                if view and rng.random() < 0.5:
                    at = rng.randrange(len(view))
                    if at % 2 == 1:
                        view = view[:at] + [rng.choice([("gives", 1), ("gives", 2)])]
                views.append(view)
            if not all(is_view(view) for view in views):
                continue
            told = [(other, at, one) for other in range(len(views)) for one in range(other) for at in range(1, 40, 2)
                    if at < len(views[one]) and at < len(views[other]) and views[one][:at] == views[other][:at]
                    and views[one][at] != views[other][at]]
            if told:
                other, at, one = min(told)
                with self.assertRaises(Parted) as caught:
                    tree_of(views)
                self.assertEqual((caught.exception.one, caught.exception.other, caught.exception.at), (one, other, at))
                found += 1
            else:
                self.assertEqual(tree_of(views), plain_tree(views))
        self.assertGreater(found, 20)

    def test_nothing_is_changed(self):
        views = [[IN, CALLS, GOT], [IN]]
        tree_of(views)
        self.assertEqual(views, [[IN, CALLS, GOT], [IN]])


class ActBehindTest(unittest.TestCase):
    def test_acts(self):
        for events, act in [([IN], CALLS), ([IN, GOT], GIVES), ([IN, GOT, GOT], ENDS), ([GOT], ENDS), ([("in", 0, 4)], ENDS),
                            ([("in", 5, 0)], ("calls", 5, 5, 9999)), ([("in", 5, 0), ("in", 1, 1)], ENDS),
                            ([("in", 5, 0), ("in", 1, 1), IN], ENDS), ([("in", 5, 0), GOT], GIVES), ([GOT, IN], ENDS)]:
            self.assertEqual(act_behind(TREE, events), act)
            self.assertEqual(act_behind(TREE, tuple(events)), act)
        self.assertEqual(act_behind(EXAMPLE, [("in", 0, 5)]), ENDS)
        self.assertEqual(act_behind(((None, ()),), [IN]), ENDS)

    def test_drawn_trees(self):
        for seed in range(60):
            rng = random.Random(seed)
            tree = draw_tree(rng, 25)
            for _ in range(30):
                events, node = [], 0
                for _ in range(rng.randint(1, 8)):
                    known = list(dict(tree[node][1]).items()) if node is not None else []
                    if known and rng.random() < 0.9:
                        event, node = rng.choice(known)
                    else:
                        event = draw_event(rng, 3)
                        node = dict(tree[node][1]).get(event) if node is not None else None
                    events.append(event)
                self.assertEqual(act_behind(tree, events), tells(tree, events))

    def test_errors(self):
        for value in odd_values():
            with self.assertRaises(BadTree):
                act_behind(value, None)
            with self.assertRaises(BadTree):
                least_tree(value)
            if not isinstance(value, (list, tuple)) or len(value) == 0:
                with self.assertRaises(BadEvents) as caught:
                    act_behind(TREE, value)
                self.assertIsNone(caught.exception.at)
            for events in [[value], [IN, value], [GOT, GOT, value, value]]:
                if value in [("in", 0, 3), ("got", 3)]:
                    continue
                with self.assertRaises(BadEvents, msg=value) as caught:
                    act_behind(TREE, events)
                self.assertEqual(caught.exception.at, events.index(value))
        for event in [("in", 6, 0), ("in", 0, 10000), ("got", 10000), ("gives", 1), ENDS, ("in", 0), ("got", 0, 0)]:
            with self.assertRaises(BadEvents) as caught:
                act_behind(TREE, [GOT, IN, event, event])
            self.assertEqual(caught.exception.at, 2)


class LeastTreeTest(unittest.TestCase):
    def test_example(self):
        self.assertEqual(least_tree(SHARED), ((None, ((("in", 0, 3), 1), (("in", 0, 5), 1))), (("gives", 4), ())))
        self.assertEqual(least_tree(EXAMPLE), ((None, ((("in", 0, 3), 1),)), (("gives", 4), ())))

    def test_nothing_at_all(self):
        for tree in [((None, ()),), ((None, ((IN, 1),)), (None, ())), ((None, ((IN, 1), (("in", 1, 1), 2))), (ENDS, ()), (None, ()))]:
            self.assertEqual(least_tree(tree), ((None, ()),))

    def test_only_what_ends_is_left_out(self):
        # Behind got 4 it gives: that is kept, though nothing stands behind it.
        tree = ((None, ((IN, 1),)), (CALLS, ((GOT, 2), (("got", 5), 3), (("got", 6), 4))), (GIVES, ()), (None, ()), (ENDS, ()))
        self.assertEqual(least_tree(tree), ((None, ((IN, 1),)), (CALLS, ((GOT, 2),)), (GIVES, ())))

    def test_numbers_as_they_are_met(self):
        tree = ((None, ((("in", 0, 0), 3), (("in", 0, 1), 2), (("in", 0, 2), 1))), (("gives", 1), ()), (CALLS, ((GOT, 4),)),
                (("calls", 1, 1, 1), ((("got", 0), 4), (("got", 1), 5))), (("gives", 4), ()), (("gives", 5), ()))
        self.assertEqual(least_tree(tree), (
            (None, ((("in", 0, 0), 1), (("in", 0, 1), 2), (("in", 0, 2), 3))), (("calls", 1, 1, 1), ((("got", 0), 4), (("got", 1), 5))),
            (CALLS, ((GOT, 4),)), (("gives", 1), ()), (("gives", 4), ()), (("gives", 5), ())))

    def test_drawn_trees(self):
        for seed in range(150):
            rng = random.Random(seed)
            tree = draw_tree(rng, rng.choice([5, 15, 40]))
            least = least_tree(tree)
            self.assertTrue(is_tree(least))
            self.assertEqual(meaning(least), meaning(tree))
            # No two nodes tell the same, and none only ends.
            self.assertEqual(len(least), len(meanings(tree)))
            self.assertEqual(least_tree(least), least)
            met = [0]
            for _, children in least:
                for _, index in children:
                    met += [index] if index not in met else []
            self.assertEqual(met, list(range(len(least))))
            for other in [renumbered(tree, rng), unfolded(tree, rng, 12), with_dead_ends(tree, rng, 5),
                          with_dead_ends(unfolded(renumbered(tree, rng), rng, 9), rng, 9)]:
                self.assertTrue(is_tree(other))
                self.assertEqual(least_tree(other), least)

    def test_trees_that_tell_otherwise(self):
        unlike = 0
        for seed in range(100):
            rng = random.Random(seed)
            tree = draw_tree(rng, 12)
            at = rng.randrange(1, len(tree)) if len(tree) > 1 else 0
            act, children = tree[at]
            if at == 0 or act in (None, ENDS):
                continue
            other = with_node(tree, at, (("gives", 77), children))
            self.assertNotEqual(least_tree(other), least_tree(tree))
            if children:
                event, index = children[0]
                shorter = with_node(tree, at, (act, ((("got", 8888), index),) if len(children) == 1 else ((("got", 0), index),)))
                if is_tree(shorter):
                    self.assertEqual(least_tree(shorter) == least_tree(tree), meaning(shorter) == meaning(tree))
            unlike += 1
        self.assertGreater(unlike, 50)

    def test_pairs_of_small_trees(self):
        trees = [draw_tree(random.Random(seed), 3, (), 1, 0.5) for seed in range(150)]
        alike = 0
        for one in trees:
            for other in trees:
                self.assertEqual(least_tree(one) == least_tree(other), meaning(one) == meaning(other))
                alike += one != other and meaning(one) == meaning(other)
        self.assertGreater(alike, 20)

    def test_trees_of_its_own_ways(self):
        for seed in range(40):
            rng = random.Random(seed)
            tree = draw_tree(rng, 9)
            ways = ways_of(tree)
            for way in ways:
                self.assertEqual(act_behind(tree, way[::2]), way[-1])
            good = [way for way in ways if is_view(way)]
            if len(good) == len(ways) < 200:
                self.assertEqual(least_tree(tree_of(ways)), least_tree(tree))

    def test_long_chains_and_fans(self):
        for many in (400, 3000):
            self.assertEqual(least_tree(chain(many)), chain(many))
        for many in (400, 2000):
            self.assertEqual(least_tree(fan(many)), fan(many))
        same = ((None, tuple((("in", 0, at), at + 1) for at in range(400))),) + ((GIVES, ()),) * 400
        self.assertEqual(least_tree(same), ((None, tuple((("in", 0, at), 1) for at in range(400))), (GIVES, ())))


if __name__ == "__main__":
    unittest.main()
