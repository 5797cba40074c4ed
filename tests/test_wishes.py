"""Points 19 and 20: brackets for wishes."""

import random
import unittest

from ringgates.errors import NoRing
from ringgates.machines import Machine, table
from ringgates.wishes import brackets_for, opening
from tests.helper import BIG, seg

ALL = list(range(8))
RIGHTS = ["", "r", "w", "x", "rw", "rx", "wx", "rwx"]
BRACKETS = [(r1, r2, r3) for r1 in range(8) for r2 in range(8) for r3 in range(8) if r1 <= r2 <= r3]


def rings_of(brackets, rights):
    """The four lists of rings that may read, write, run and call a segment, as the machine's table has them."""
    rows = [row[0] for row in table(Machine([seg(brackets, rights)]))]
    return tuple([ring for ring in ALL if rows[ring][way]] for way in range(4))


CHOICES = {(brackets, rights): rings_of(brackets, rights) for brackets in BRACKETS for rights in RIGHTS}


def all_fitting(lists):
    """All choices that give just these lists."""
    wished = tuple(sorted(set(rings)) for rings in lists)
    return [choice for choice, given in CHOICES.items() if given == wished]


def others(given, lists):
    """How many others are let besides, or None where one of the told ones is not."""
    if any(set(rings) - set(let) for rings, let in zip(lists, given)):
        return None
    return sum(len(set(let) - set(rings)) for rings, let in zip(lists, given))


def least_opening(lists):
    """The least opening, of all brackets and rights."""
    counted = [(others(given, lists), choice) for choice, given in CHOICES.items()]
    fitting = [(many, choice) for many, choice in counted if many is not None]
    return min(fitting)[1] if fitting else None


def drawn_lists(seed, many):
    """Four lists of so many rings at most, each list by chance."""
    draw = random.Random(seed)
    return tuple([draw.randrange(8) for place in range(draw.randrange(many + 1))] for way in range(4))


class BracketsFor(unittest.TestCase):
    def test_no_wishes(self):
        self.assertEqual(brackets_for([], [], [], []), ((0, 0, 0), ""))

    def test_each_way_alone(self):
        self.assertEqual(brackets_for([0, 1, 2], [], [], []), ((0, 2, 2), "r"))
        self.assertEqual(brackets_for([], [0, 1, 2], [], []), ((2, 2, 2), "w"))
        self.assertEqual(brackets_for([], [], [2, 3], []), ((2, 3, 3), "x"))
        self.assertEqual(brackets_for([], [], [0], []), ((0, 0, 0), "x"))

    def test_all_ways(self):
        told = brackets_for([0, 1, 2, 3], [0, 1], [1, 2, 3], [4, 5])
        self.assertEqual(told, ((1, 3, 5), "rwx"))
        self.assertIs(type(told), tuple)
        self.assertIs(type(told[0]), tuple)

    def test_calls(self):
        self.assertEqual(brackets_for([], [], [0], [1, 2, 3, 4, 5, 6, 7]), ((0, 0, 7), "x"))
        self.assertEqual(brackets_for([], [], [6], [7]), ((6, 6, 7), "x"))

    def test_every_ring(self):
        self.assertEqual(brackets_for(ALL, ALL, [7], []), ((7, 7, 7), "rwx"))
        self.assertEqual(brackets_for(ALL, [0], ALL, []), ((0, 7, 7), "rwx"))

    def test_the_least_of_several(self):
        self.assertEqual(brackets_for([0, 1, 2], [0], [], []), ((0, 2, 2), "rw"))
        self.assertEqual(len(all_fitting(([0, 1, 2], [], [], []))), 18)

    def test_any_order_and_some_twice(self):
        self.assertEqual(brackets_for([2, 0, 1, 0, 2], [1, 0, 1], [], []), ((1, 2, 2), "rw"))
        self.assertEqual(brackets_for([], [], [4, 3, 4], [6, 5, 5]), ((3, 4, 6), "x"))

    def test_none_where_none_do(self):
        for lists in [
            ([1], [], [], []),                  # who reads from outside lets all within
            ([], [1], [], []),
            ([0, 2], [], [], []),
            ([], [], [0, 2], []),
            ([], [], [], [3]),                  # who lets call lets some ring run
            ([], [], [3], [5]),                 # called from straight behind the ring that runs
            ([], [], [3], [3, 4]),
            ([0], [0, 1], [], []),              # what is written up to r1 is read up to r2, no less
            ([0, 1], [], [0, 1, 2], []),        # read and run both up to r2
            ([], [0, 1], [0, 1], []),           # written up to r1, run from r1 on
        ]:
            with self.subTest(lists):
                self.assertIsNone(brackets_for(*lists))

    def test_each_choice_is_given_back_as_the_least_like_it(self):
        for choice, lists in CHOICES.items():
            self.assertEqual(brackets_for(*lists), min(all_fitting(lists)))

    def test_one_ring_more_or_less(self):
        draw = random.Random(19)
        nones = 0
        for choice in draw.sample(sorted(CHOICES), 150):
            lists = [list(rings) for rings in CHOICES[choice]]
            way, ring = draw.randrange(4), draw.randrange(8)
            if ring in lists[way]:
                lists[way].remove(ring)
            else:
                lists[way].append(ring)
            told = brackets_for(*lists)
            self.assertEqual(told, min(all_fitting(lists), default=None))
            nones += told is None
        self.assertGreater(nones, 50)
        self.assertLess(nones, 145)


class Opening(unittest.TestCase):
    def test_no_wishes(self):
        self.assertEqual(opening([], [], [], []), ((0, 0, 0), ""))

    def test_others_are_let_where_they_must(self):
        self.assertEqual(opening([3], [], [], []), ((0, 3, 3), "r"))
        self.assertEqual(opening([], [3], [], []), ((3, 3, 3), "w"))
        self.assertEqual(opening([], [], [2, 5], []), ((2, 5, 5), "x"))

    def test_calls_need_a_ring_that_runs(self):
        self.assertEqual(opening([], [], [], [1]), ((0, 0, 1), "x"))
        self.assertEqual(opening([], [], [], [7]), ((6, 6, 7), "x"))
        self.assertEqual(opening([], [], [2], [7]), ((2, 2, 7), "x"))

    def test_fewest_others_go_ahead_of_least_brackets(self):
        # (0, 0, 5) is less, but lets 1 to 4 call besides.
        self.assertEqual(opening([], [], [], [5]), ((4, 4, 5), "x"))
        # (0, 1, 1) is less, but lets ring 0 run besides.
        self.assertEqual(opening([1], [], [1], []), ((1, 1, 1), "rx"))

    def test_the_least_of_several(self):
        # All brackets with an r2 of 0 let just ring 0 read.
        self.assertEqual(opening([0], [], [], []), ((0, 0, 0), "r"))
        # Ring 3 calls besides by (2, 2, 4), and runs besides by (2, 3, 4): the same number of others.
        self.assertEqual(opening([], [], [2], [4]), ((2, 2, 4), "x"))

    def test_just_the_told_ones_where_that_goes(self):
        for choice in random.Random(20).sample(sorted(CHOICES), 100):
            lists = CHOICES[choice]
            self.assertEqual(opening(*lists), brackets_for(*lists))

    def test_none_where_no_brackets_let_all(self):
        for lists in [
            ([], [], [3], [3]),
            ([], [], [3], [2]),
            ([5], [], [], [5]),                 # read up to r2, called from above it
            ([], [5], [], [4]),
            ([], [5], [4], []),                 # written up to r1, run from r1 on
            ([], [], [], [0]),                  # called from above some ring that runs
        ]:
            with self.subTest(lists):
                self.assertIsNone(opening(*lists))

    def test_any_order_and_some_twice(self):
        self.assertEqual(opening([3, 1, 3], [1, 0, 1], [2, 1], [4, 4]), opening([1, 3], [0, 1], [1, 2], [4]))
        self.assertEqual(opening([3, 1, 3], [1, 0, 1], [2, 1], [4, 4]), ((1, 3, 4), "rwx"))

    def test_as_all_brackets_and_rights_tell(self):
        nones = 0
        for seed in range(250):
            lists = drawn_lists(seed, 1 + seed % 3)
            told = opening(*lists)
            self.assertEqual(told, least_opening(lists), lists)
            nones += told is None
        self.assertGreater(nones, 30)
        self.assertLess(nones, 200)


class Both(unittest.TestCase):
    def test_refused_with_the_first_that_is_no_ring(self):
        for function in (brackets_for, opening):
            for lists, first in [
                (([8], [], [], []), 8),
                (([], [-1], [], []), -1),
                (([], [], [BIG], []), BIG),
                (([], [], [], [-BIG]), -BIG),
                (([0, 9, 8], [], [], []), 9),
                (([0, 7], [3, 11], [10], [9]), 11),
                (([0], [1], [2, 8, -1], [9]), 8),
                (([], [], [3], [3, 12, 3, 13]), 12),
                (([7], [6], [5], [4, 8]), 8),
            ]:
                with self.subTest(function.__name__, lists=lists):
                    with self.assertRaises(NoRing) as caught:
                        function(*lists)
                    self.assertEqual(caught.exception.what, first)

    def test_refused_ahead_of_none(self):
        for function in (brackets_for, opening):
            with self.assertRaises(NoRing) as caught:
                function([1], [], [3], [3, 8])
            self.assertEqual(caught.exception.what, 8)

    def test_arguments_by_their_names(self):
        for function in (brackets_for, opening):
            self.assertEqual(function(calls=[4], runs=[3], writes=[], reads=[0, 1, 2, 3]), ((3, 3, 4), "rx"))

    def test_nothing_that_is_handed_in_is_changed(self):
        lists = [[3, 0, 1, 2], [1, 0, 0], [2, 1, 3], [5, 4]]
        copies = [list(rings) for rings in lists]
        for function in (brackets_for, opening):
            told = function(*lists)
            self.assertEqual(lists, copies)
            self.assertEqual(function(*lists), told)

    def test_what_is_told_gives_what_was_wished(self):
        for seed in range(60):
            lists = drawn_lists(seed, 2)
            told = opening(*lists)
            if told is not None:
                given = rings_of(*told)
                for rings, let in zip(lists, given):
                    self.assertLessEqual(set(rings), set(let))


if __name__ == "__main__":
    unittest.main()
