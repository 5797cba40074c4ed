"""Points 2, 3, 13, 14 and 15: what a hand can come to, ways to wishes, and papers."""

import itertools
import unittest

from ringgates import reaches
from ringgates.deeds import done, first
from ringgates.errors import NoDeed, NoWish, TooMany
from ringgates.machines import Machine
from ringgates.reaches import paper, paper_holds, stands, way
from ringgates.traces import done_all
from tests.helper import BIG, Draw, num, ptr, seg, stand_of, with_rows

RETURN = ("return",)
NOTHING = (None,) * 4


def counter(base):
    """A machine with one word, which ring 7 may write, and its first stand there."""
    machine = Machine([seg((7, 7, 7), "rw", 0, [num(0)])], base=base)
    return machine, first(machine, 7)


def holed():
    """A word of ring 1, a gate that stores a there by its own aim, and the first stand of ring 5."""
    inner = seg((1, 1, 1), "rw", 0, [num(3)])
    gate = seg((1, 1, 7), "x", 1, (), [("aim", 1, 0, 0), ("store", 1, 0), RETURN])
    machine = Machine([inner, gate])
    return machine, first(machine, 5)


def rows_of_deeds(many, longest):
    """All rows of numbers below many, the shorter ones first, those of one length in the order of lists."""
    for length in range(longest + 1):
        yield from itertools.product(range(many), repeat=length)


class Reached(unittest.TestCase):
    def refused(self, kind, what, function, *arguments, **named):
        with self.assertRaises(kind) as caught:
            function(*arguments, **named)
        self.assertEqual(caught.exception.what, what)


class Stands(Reached):
    def test_no_deeds(self):
        machine, stand = counter(16)
        self.assertEqual(stands(machine, stand, []), [stand])
        self.assertEqual(stands(machine, stand, [], limit=1), [stand])

    def test_in_the_order_in_which_they_are_found(self):
        machine, stand = counter(16)
        menu = [("add", 5), ("set", 1), ("aim", 0, 0, 0)]
        found = stands(machine, stand, menu)
        self.assertEqual([each[1:3] for each in found[:8]], [
            (0, NOTHING), (5, NOTHING), (1, NOTHING), (0, ((7, 0, 0), None, None, None)), (10, NOTHING),
            (5, ((7, 0, 0), None, None, None)), (6, NOTHING), (1, ((7, 0, 0), None, None, None)),
        ])
        self.assertEqual(len(found), 32)

    def test_stand_by_stand_and_not_the_last_one_first(self):
        machine, stand = counter(100)
        found = [each[1] for each in stands(machine, stand, [("add", 1), ("add", 10)])]
        self.assertEqual(found[:10], [0, 1, 10, 2, 11, 20, 3, 12, 21, 30])

    def test_the_order_of_the_menu(self):
        machine, stand = counter(16)
        deeds = [("set", 3), ("set", 9), ("set", 5)]
        for menu in itertools.permutations(deeds):
            found = stands(machine, stand, list(menu))
            self.assertEqual([each[1] for each in found], [0] + [deed[1] for deed in menu])

    def test_a_deed_twice(self):
        machine, stand = counter(5)
        once = stands(machine, stand, [("add", 1), ("set", 3)])
        self.assertEqual(stands(machine, stand, [("add", 1), ("add", 1), ("set", 3), ("add", 1)]), once)

    def test_deeds_that_lead_nowhere_new(self):
        machine, stand = counter(5)
        self.assertEqual(stands(machine, stand, [("set", 0), RETURN, ("load", 0, 0)], limit=1), [stand])

    def test_stands_behind_faults(self):
        machine, stand = counter(16)
        stand = stand_of(machine, 7, 4, [(7, 0, 0)])
        found = stands(machine, stand, [RETURN, ("store", 0, 0)])
        self.assertEqual(found, [
            stand, first(machine, 7), (*stand[:3], ((num(4),),)), (7, 0, NOTHING, ((num(4),),)),
        ])

    def test_words_count(self):
        machine, stand = counter(3)
        stand = stand_of(machine, 7, 0, [(7, 0, 0)])
        found = stands(machine, stand, [("add", 1), ("store", 0, 0)])
        self.assertEqual(len(found), 9)
        self.assertEqual([(each[1], each[3][0][0][1]) for each in found], [
            (0, 0), (1, 0), (2, 0), (1, 1), (2, 2), (2, 1), (0, 2), (0, 1), (1, 2),
        ])

    def test_from_any_stand(self):
        machine, stand = counter(16)
        stand = (7, 9, ((7, 0, 5), None, None, (7, 0, BIG)), ((num(12),),))
        self.assertEqual(stands(machine, stand, [("set", 9)]), [stand])
        self.assertEqual([each[1] for each in stands(machine, stand, [("set", 0)])], [9, 0])

    def test_the_limit_just_enough_and_one_too_few(self):
        for many in (2, 3, 10, 50):
            machine, stand = counter(many)
            for limit in (many, many + 1, 1000):
                self.assertEqual(len(stands(machine, stand, [("add", 1)], limit=limit)), many)
            for limit in (1, many - 1):
                self.refused(TooMany, limit, stands, machine, stand, [("add", 1)], limit=limit)

    def test_the_limit_is_400_where_it_is_left_out(self):
        self.assertEqual(reaches.LIMIT, 400)
        machine, stand = counter(400)
        self.assertEqual(len(stands(machine, stand, [("add", 1)])), 400)
        machine, stand = counter(401)
        self.refused(TooMany, 400, stands, machine, stand, [("add", 1)])
        self.assertEqual(len(stands(machine, stand, [("add", 1)], limit=401)), 401)

    def test_no_end_of_stands(self):
        machine, stand = counter(16)
        menu = [("aim", 0, 0, 0), ("move", 0, 0, BIG)]
        self.refused(TooMany, 400, stands, machine, stand, menu)

    def test_a_faulty_deed(self):
        machine, stand = counter(500)
        for menu, bad in [
            ([("load", 4, 0)], ("load", 4, 0)), ([("add", 1), ("aim", 0, 1, 0)], ("aim", 0, 1, 0)),
            ([("add", 1), ("call", -1), ("call", 4)], ("call", -1)), ([("call", 4), ("call", -1)], ("call", 4)),
        ]:
            self.refused(NoDeed, bad, stands, machine, stand, menu)
            self.refused(NoDeed, bad, stands, machine, stand, menu, limit=1)

    def test_arguments_by_place_and_by_name(self):
        machine, stand = counter(4)
        told = stands(machine, stand, [("add", 1)])
        self.assertEqual(stands(limit=400, menu=[("add", 1)], stand=stand, machine=machine), told)
        with self.assertRaises(TypeError):
            stands(machine, stand, [("add", 1)], 400)

    def test_lists_are_the_askers_own(self):
        machine, stand = counter(4)
        menu = [("add", 1)]
        told = stands(machine, stand, menu)
        self.assertEqual((type(told), menu), (list, [("add", 1)]))
        menu.append(("set", 0))
        told.clear()
        self.assertEqual(len(stands(machine, stand, [("add", 1)])), 4)

    def test_deeds_have_most_100(self):
        """From 32 down it takes 98 rows and those ahead; a is 0 and there is no pointer behind a fault."""
        for ahead, pointer in ((2, (4, 0, 0)), (3, None)):
            rows = [("add", 0)] * ahead + [("zero", ahead + 3), ("add", -1), ("go", ahead), RETURN]
            machine = with_rows([], rows, base=33)
            stand = stand_of(machine, 4, 32, [(4, 0, 0)])
            self.assertEqual(stands(machine, stand, [("call", 0)])[1], (4, 0, (pointer, None, None, None), ((),)))

    def test_against_all_rows_of_deeds(self):
        many = 0
        for seed in range(60):
            draw = Draw(seed)
            machine = draw.machine(5, True)
            stand = first(machine, 5)
            menu = [("aim", 0, draw.random.randrange(len(machine)), 0), ("call", 0), draw.row(len(machine), False)]
            found = {}
            for numbers in rows_of_deeds(3, 5):
                found.setdefault(done_all(machine, stand, [menu[number] for number in numbers])[0])
            told = stands(machine, stand, menu, limit=1000)
            self.assertEqual(told[:len(found)], list(found))
            many += len(found) > 4
        self.assertGreater(many, 10)


class Way(Reached):
    def test_a_wish_that_holds_at_first(self):
        machine, stand = holed()
        self.assertEqual(way(machine, stand, [("set", 8)], (0, 0, num(3))), [])
        self.assertEqual(way(machine, stand, [], (0, 0, num(3))), [])

    def test_a_wish_that_never_holds(self):
        machine, stand = holed()
        menu = [("set", 8), ("aim", 0, 1, 0), ("call", 0)]
        for wish in [(0, 0, num(9)), (0, 0, ptr(5, 1, 0)), (0, 0, num(BIG)), (0, 0, num(-1)), (0, 0, ptr(9, -1, -1))]:
            self.assertIsNone(way(machine, stand, menu, wish))
            self.assertIsNone(way(machine, stand, [], wish))

    def test_the_least_of_the_shortest(self):
        machine, stand = holed()
        deeds = [("set", 8), ("aim", 0, 1, 0), ("call", 0)]
        self.assertEqual(way(machine, stand, deeds, (0, 0, num(8))), [0, 1, 2])
        self.assertEqual(way(machine, stand, [deeds[1], deeds[0], deeds[2]], (0, 0, num(8))), [0, 1, 2])
        self.assertEqual(way(machine, stand, [deeds[2], deeds[1], deeds[0]], (0, 0, num(8))), [1, 2, 0])
        self.assertEqual(way(machine, stand, deeds, (0, 0, num(0))), [1, 2])

    def test_a_deed_twice_is_told_by_its_first_number(self):
        machine, stand = holed()
        menu = [RETURN, ("set", 8), ("aim", 0, 1, 0), ("set", 8), ("call", 0), ("aim", 0, 1, 0), ("call", 0)]
        self.assertEqual(way(machine, stand, menu, (0, 0, num(8))), [1, 2, 4])

    def test_the_same_deed_many_times(self):
        machine, stand = counter(16)
        menu = [("aim", 0, 0, 0), ("store", 0, 0), ("add", 1)]
        self.assertEqual(way(machine, stand, menu, (0, 0, num(5))), [0, 2, 2, 2, 2, 2, 1])
        menu = [("store", 0, 0), ("add", 5), ("add", 1), ("aim", 0, 0, 0)]
        self.assertEqual(way(machine, stand, menu, (0, 0, num(11))), [1, 1, 2, 3, 0])

    def test_shorter_goes_ahead_of_less(self):
        machine, stand = counter(16)
        stand = stand_of(machine, 7, 0, [(7, 0, 0)])
        self.assertEqual(way(machine, stand, [("add", 1), ("store", 0, 0), ("set", 3)], (0, 0, num(3))), [2, 1])
        self.assertEqual(way(machine, stand, [("add", 1), ("store", 0, 0), ("set", 2)], (0, 0, num(2))), [2, 1])
        self.assertEqual(way(machine, stand, [("add", 1), ("store", 0, 0), ("set", 1)], (0, 0, num(1))), [0, 1])

    def test_a_pointer_may_be_wished(self):
        machine, stand = counter(16)
        menu = [("aim", 0, 0, 0), ("move", 1, 0, 3), ("keep", 1, 0, 0), ("keep", 0, 0, 0)]
        self.assertEqual(way(machine, stand, menu, (0, 0, ptr(7, 0, 3))), [0, 1, 2])
        self.assertEqual(way(machine, stand, menu, (0, 0, ptr(7, 0, 0))), [0, 3])
        self.assertIsNone(way(machine, stand, menu, (0, 0, ptr(6, 0, 3))))

    def test_just_that_word(self):
        machine = Machine([seg((7, 7, 7), "rw", 0, [num(1), num(2)]), seg((7, 7, 7), "rw", 0, [num(3), num(4)])])
        stand = stand_of(machine, 7, 9, [(7, 0, 0), (7, 0, 1), (7, 1, 0), (7, 1, 1)])
        menu = [("store", p, 0) for p in range(4)]
        for at, place in enumerate([(0, 0), (0, 1), (1, 0), (1, 1)]):
            self.assertEqual(way(machine, stand, menu, (*place, num(9))), [at])
            self.assertEqual(way(machine, stand, menu, (*place, num(at + 1))), [])

    def test_words_written_ahead_of_a_fault(self):
        machine = with_rows([seg((7, 7, 7), "rw", 0, [num(0)])], [("store", 0, 0), ("load", 2, 0)])
        stand = stand_of(machine, 4, 6, [(4, 0, 0), (4, 1, 0)])
        self.assertEqual(way(machine, stand, [("call", 1)], (0, 0, num(6))), [0])

    def test_the_words_of_the_stand_count_not_the_machines(self):
        machine, stand = counter(16)
        stand = (*stand[:3], ((num(5),),))
        self.assertEqual(way(machine, stand, [], (0, 0, num(5))), [])
        self.assertIsNone(way(machine, stand, [], (0, 0, num(0))))

    def test_no_wish(self):
        machine, stand = holed()
        for place in [(-1, 0), (-2, 0), (2, 0), (8, 0), (BIG, 0), (-BIG, 0), (0, -1), (0, 1), (0, BIG), (0, -BIG),
                      (1, 0), (1, -1)]:
            wish = (*place, num(3))
            for function in (way, paper):
                self.refused(NoWish, wish, function, machine, stand, [("set", 8)], wish)
                self.refused(NoWish, wish, function, machine, stand, [], wish)
            self.refused(NoWish, wish, paper_holds, machine, stand, [("set", 8)], wish, [stand])
            self.refused(NoWish, wish, paper_holds, machine, stand, [("set", 8)], wish, [])

    def test_each_refusal_ahead_of_the_next(self):
        machine, stand = counter(16)
        bad, wish = ("load", 4, 0), (1, 0, num(0))
        for function in (way, paper):
            self.refused(NoDeed, bad, function, machine, stand, [("add", 1), bad, ("call", 4)], wish, limit=1)
            self.refused(NoDeed, bad, function, machine, stand, [("add", 1), bad], (0, 0, num(1)), limit=1)
            # A wish that holds at first does not go ahead of a faulty deed.
            self.refused(NoDeed, bad, function, machine, stand, [bad], (0, 0, num(0)))
            self.refused(NoWish, wish, function, machine, stand, [("add", 1)], wish, limit=1)
            self.refused(TooMany, 1, function, machine, stand, [("add", 1)], (0, 0, num(1)), limit=1)
        self.refused(NoDeed, bad, paper_holds, machine, stand, [("add", 1), bad, ("call", 4)], wish, [])
        self.refused(NoDeed, bad, paper_holds, machine, stand, [("add", 1), bad], (0, 0, num(0)), [])

    def test_found_among_the_first_so_many_although_there_are_more(self):
        """The stands are a = 0, 1, 2 ..: and in the place of a + 1, from 7 on, one with the word 7."""
        rows = [("add", 1), ("store", 1, 0), RETURN]
        machine = with_rows([seg((7, 7, 7), "rw", 0, [num(0)])], rows, base=BIG)
        stand = stand_of(machine, 4, 0, [(4, 1, 0), (4, 0, 0)])
        wish = (0, 0, num(7))
        for limit in (8, 9, 100, 400):
            self.assertEqual(way(machine, stand, [("call", 0)], wish, limit=limit), [0] * 7)
            self.assertIsNone(paper(machine, stand, [("call", 0)], wish, limit=limit))
        for limit in (1, 6, 7):
            self.refused(TooMany, limit, way, machine, stand, [("call", 0)], wish, limit=limit)
            self.refused(TooMany, limit, paper, machine, stand, [("call", 0)], wish, limit=limit)
        for n, told in ((399, [0] * 399), (398, [0] * 398)):
            self.assertEqual(way(machine, stand, [("call", 0)], (0, 0, num(n))), told)
        self.refused(TooMany, 400, way, machine, stand, [("call", 0)], (0, 0, num(400)))
        self.refused(TooMany, 400, paper, machine, stand, [("call", 0)], (0, 0, num(400)))
        self.assertEqual(way(machine, stand, [("call", 0)], (0, 0, num(400)), limit=401), [0] * 400)

    def test_the_last_one_of_the_first_so_many(self):
        """Three stands behind the first one; the wish holds in the third of these."""
        machine, stand = counter(16)
        stand = stand_of(machine, 7, 6, [(7, 0, 0)])
        menu = [("add", 1), ("set", 3), ("store", 0, 0), ("add", 3)]
        self.assertEqual(way(machine, stand, menu, (0, 0, num(6)), limit=4), [2])
        self.refused(TooMany, 3, way, machine, stand, menu, (0, 0, num(6)), limit=3)
        self.assertEqual(way(machine, stand, menu, (0, 0, num(0)), limit=1), [])

    def test_the_limit_just_enough_where_it_never_holds(self):
        machine, stand = counter(30)
        self.assertIsNone(way(machine, stand, [("add", 1)], (0, 0, num(1)), limit=30))
        self.refused(TooMany, 29, way, machine, stand, [("add", 1)], (0, 0, num(1)), limit=29)
        machine, stand = counter(400)
        self.assertIsNone(way(machine, stand, [("add", 1)], (0, 0, num(1))))
        machine, stand = counter(401)
        self.refused(TooMany, 400, way, machine, stand, [("add", 1)], (0, 0, num(1)))

    def test_arguments_by_place_and_by_name(self):
        machine, stand = holed()
        menu, wish = [("set", 8), ("aim", 0, 1, 0), ("call", 0)], (0, 0, num(8))
        for function in (way, paper):
            told = function(machine, stand, menu, wish)
            self.assertEqual(function(limit=400, wish=wish, menu=menu, stand=stand, machine=machine), told)
            with self.assertRaises(TypeError):
                function(machine, stand, menu, wish, 400)

    def test_lists_are_the_askers_own(self):
        machine, stand = holed()
        menu, wish = [("set", 8), ("aim", 0, 1, 0), ("call", 0)], (0, 0, num(8))
        for each in (wish, (0, 0, num(3))):
            told = way(machine, stand, menu, each)
            self.assertIs(type(told), list)
            expected = list(told)
            told.append(9)
            self.assertEqual(way(machine, stand, menu, each), expected)
        self.assertEqual(menu, [("set", 8), ("aim", 0, 1, 0), ("call", 0)])

    def test_deeds_have_most_100(self):
        """From 32 down the store is row 98 behind those ahead: the 100th one is done, the next is not."""
        for ahead, told in ((2, [0]), (3, None)):
            rows = [("add", 0)] * ahead + [("zero", ahead + 3), ("add", -1), ("go", ahead), ("store", 1, 0), RETURN]
            machine = with_rows([seg((7, 7, 7), "rw", 0, [num(5)])], rows, base=33)
            stand = stand_of(machine, 4, 32, [(4, 1, 0), (4, 0, 0)])
            self.assertEqual(way(machine, stand, [("call", 0)], (0, 0, num(0))), told)

    def test_against_all_rows_of_deeds(self):
        lengths = set()
        for seed in range(150):
            draw = Draw(seed)
            machine = draw.machine(5, True)
            many = len(machine)
            stand = stand_of(machine, 5, 2, [(5, draw.random.randrange(many), 0) for p in range(4)])
            menu = [draw.row(many, True) for place in range(4)]
            found = {}
            for numbers in rows_of_deeds(4, 4):
                end = done_all(machine, stand, [menu[number] for number in numbers])[0]
                for number, words in enumerate(end[3]):
                    for place, word in enumerate(words):
                        found.setdefault((number, place, word), list(numbers))
            for wish, numbers in found.items():
                self.assertEqual(way(machine, stand, menu, wish, limit=2000), numbers)
                lengths.add(len(numbers))
        self.assertLessEqual({0, 1, 2, 3}, lengths)


class Paper(Reached):
    def setUp(self):
        """No row of the gate aims, so that the word of ring 1 stays."""
        inner = seg((1, 1, 1), "rw", 0, [num(3)])
        gate = seg((1, 1, 7), "x", 1, (), [("store", 1, 0), RETURN])
        self.machine = Machine([inner, gate], base=4)
        self.stand = first(self.machine, 5)
        self.menu = [("add", 1), ("aim", 0, 1, 0), ("aim", 1, 0, 0), ("call", 0)]
        self.wish = (0, 0, num(2))

    def holds(self, listed, **other):
        named = {"machine": self.machine, "stand": self.stand, "menu": self.menu, "wish": self.wish, **other}
        told = paper_holds(paper=listed, **named)
        self.assertIs(type(told), bool)
        return told

    def test_told_and_judged(self):
        told = paper(self.machine, self.stand, self.menu, self.wish)
        self.assertEqual(told, stands(self.machine, self.stand, self.menu))
        self.assertEqual(len(told), 16)
        self.assertIs(paper_holds(self.machine, self.stand, self.menu, self.wish, told), True)
        self.assertIsNone(way(self.machine, self.stand, self.menu, self.wish))

    def test_none_where_there_is_a_way(self):
        machine, stand = holed()
        menu = [("set", 8), ("aim", 0, 1, 0), ("call", 0)]
        self.assertIsNone(paper(machine, stand, menu, (0, 0, num(8))))
        self.assertIsNone(paper(machine, stand, menu, (0, 0, num(3))))
        told = paper(machine, stand, menu, (0, 0, num(9)))
        self.assertEqual(told, stands(machine, stand, menu))
        self.assertIs(paper_holds(machine, stand, menu, (0, 0, num(9)), told), True)
        self.assertIs(paper_holds(machine, stand, menu, (0, 0, num(8)), told), False)

    def test_no_deeds(self):
        self.assertEqual(paper(self.machine, self.stand, [], self.wish), [self.stand])
        self.assertTrue(self.holds([self.stand], menu=[]))
        self.assertFalse(self.holds([], menu=[]))
        self.assertFalse(self.holds([self.stand], menu=[], wish=(0, 0, num(3))))

    def test_the_limit(self):
        self.assertEqual(len(paper(self.machine, self.stand, self.menu, self.wish, limit=16)), 16)
        self.refused(TooMany, 15, paper, self.machine, self.stand, self.menu, self.wish, limit=15)
        machine, stand = counter(400)
        self.assertEqual(len(paper(machine, stand, [("add", 1)], (0, 0, num(1)))), 400)
        machine, stand = counter(401)
        self.refused(TooMany, 400, paper, machine, stand, [("add", 1)], (0, 0, num(1)))

    def test_a_stand_left_out(self):
        told = stands(self.machine, self.stand, self.menu)
        for each in told:
            self.assertFalse(self.holds([other for other in told if other != each]))
        self.assertFalse(self.holds([]))

    def test_in_another_order_and_told_twice(self):
        told = stands(self.machine, self.stand, self.menu)
        self.assertTrue(self.holds(told[::-1]))
        self.assertTrue(self.holds(told[5:] + told[:5]))
        self.assertTrue(self.holds(told + told))
        self.assertTrue(self.holds([told[3]] + told))

    def test_more_stands_than_can_be_come_to(self):
        told = stands(self.machine, self.stand, self.menu)
        other = (5, 0, (None, None, None, (7, 0, 0)), ((num(1),), ()))
        more = stands(self.machine, other, self.menu)
        self.assertTrue(self.holds(told + more))
        self.assertTrue(self.holds(more + told))
        self.assertFalse(self.holds(more))
        self.assertFalse(self.holds(told + more[:-1]))
        self.assertFalse(self.holds(told + [other]))

    def test_a_stand_of_another_ring(self):
        told = stands(self.machine, self.stand, self.menu)
        for ring in (0, 7):
            start, menu = first(self.machine, ring), [("add", 1)]
            more = stands(self.machine, start, menu)
            self.assertTrue(self.holds(stands(self.machine, self.stand, menu) + more, menu=menu))
            self.assertFalse(self.holds(more, menu=menu))
            self.assertFalse(self.holds(told + more[:1]))

    def test_the_wish_holds_in_one_of_them(self):
        told = stands(self.machine, self.stand, self.menu)
        self.assertFalse(self.holds(told, wish=(0, 0, num(3))))
        other = (5, 0, (None,) * 4, ((num(2),), ()))
        more = stands(self.machine, other, self.menu)
        self.assertFalse(self.holds(told + more))
        self.assertTrue(self.holds(told + more, wish=(0, 0, num(1))))

    def test_another_menu(self):
        told = stands(self.machine, self.stand, self.menu)
        self.assertTrue(self.holds(told, menu=self.menu[:2]))
        self.assertTrue(self.holds(told, menu=self.menu[::-1] + self.menu))
        self.assertFalse(self.holds(told, menu=self.menu + [("aim", 2, 0, 0)]))
        self.assertFalse(self.holds(told, menu=[("aim", 2, 0, 0)] + self.menu))

    def test_deeds_have_most_100(self):
        rows = [("add", 0)] * 2 + [("zero", 5), ("add", -1), ("go", 2), RETURN]
        machine = with_rows([seg((7, 7, 7), "rw", 0, [num(0)])], rows, base=33)
        stand = stand_of(machine, 4, 32, [(4, 1, 0)])
        behind = done(machine, stand, ("call", 0), most=100)[0]
        self.assertNotEqual(behind, done(machine, stand, ("call", 0), most=99)[0])
        self.assertIs(paper_holds(machine, stand, [("call", 0)], (0, 0, num(1)), [stand, behind]), True)
        self.assertEqual(paper(machine, stand, [("call", 0)], (0, 0, num(1))), [stand, behind])

    def test_lists_are_the_askers_own(self):
        told = paper(self.machine, self.stand, self.menu, self.wish)
        self.assertIs(type(told), list)
        listed = list(told)
        self.holds(listed)
        self.assertEqual(listed, told)
        told.clear()
        self.assertEqual(paper(self.machine, self.stand, self.menu, self.wish), listed)
        self.assertEqual(len(self.menu), 4)

    def test_eight_hundred_stands(self):
        machine, stand = counter(800)
        told = paper(machine, stand, [("add", 1), ("add", 7)], (0, 0, num(1)), limit=800)
        self.assertEqual(len(told), 800)
        self.assertIs(paper_holds(machine, stand, [("add", 1), ("add", 7)], (0, 0, num(1)), told), True)
        self.assertIs(paper_holds(machine, stand, [("add", 1), ("add", 7)], (0, 0, num(1)), told[:-1]), False)

    def test_drawn_papers_and_ways(self):
        papers = ways = 0
        for seed in range(120):
            draw = Draw(seed)
            machine = draw.machine(5, True)
            many = len(machine)
            stand = stand_of(machine, 5, 2, [(5, draw.random.randrange(many), 0) for p in range(4)])
            menu = [draw.row(many, True) for place in range(3)]
            for number in range(many):
                wish = (number, 0, draw.word(many))
                try:
                    told = paper(machine, stand, menu, wish, limit=200)
                except TooMany:
                    self.refused(TooMany, 200, way, machine, stand, menu, wish, limit=200)
                    continue
                numbers = way(machine, stand, menu, wish, limit=200)
                self.assertEqual(told is None, numbers is not None)
                if told is None:
                    ways += 1
                    end = done_all(machine, stand, [menu[at] for at in numbers])[0]
                    self.assertEqual(end[3][number][0], wish[2])
                    continue
                papers += 1
                self.assertIs(paper_holds(machine, stand, menu, wish, told), True)
                self.assertIs(paper_holds(machine, stand, menu, wish, told[1:]), False)
                self.assertIs(paper_holds(machine, stand, menu, wish, told[:-1]), False)
        self.assertGreater(min(papers, ways), 20)


if __name__ == "__main__":
    unittest.main()
