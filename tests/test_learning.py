"""Points 2, 3, 16, 17 and 18: what is seen, partings, pairs that are alike, and inner segments that aim."""

import itertools
import unittest

from ringgates.deeds import done, first
from ringgates.errors import NoDeed, NoRing, TooMany, Unlike
from ringgates.learning import aiming, alike, alike_holds, parting, seen
from ringgates.machines import Machine, allowed
from tests.helper import BIG, DONE, Draw, fault, num, ptr, seg, stand_of

RETURN = ("return",)
AIM, CALL, ADD = ("aim", 0, 1, 0), ("call", 0), ("add", 1)


def kept_within(word, rows, *, base=16, gates=1):
    """A machine with a word of ring 1, a gate to these rows, and a word that all may read and write."""
    inner = seg((1, 1, 1), "rw", 0, [word])
    return Machine([inner, seg((1, 1, 7), "x", gates, (), rows), seg((7, 7, 7), "rw", 0, [num(0)])], base=base)


def firsts(one, other, ring=5):
    return first(one, ring), first(other, ring)


LOADS = [("aim", 1, 0, 0), ("load", 1, 0), RETURN]
# Each call counts the inner word up; a is 1 where it becomes 0, else 0.
COUNTS = [("aim", 1, 0, 0), ("load", 1, 0), ADD, ("store", 1, 0), ("zero", 7), ("set", 0), RETURN, ("set", 1), RETURN]
# Faults in any case: "kind" where the inner word is a number, else "bounds".
TELLS = [("aim", 1, 0, 0), ("fetch", 2, 1, 0), ("load", 2, 99), RETURN]


class Learned(unittest.TestCase):
    def refused(self, kind, what, function, *arguments, **named):
        with self.assertRaises(kind) as caught:
            function(*arguments, **named)
        self.assertEqual(caught.exception.what, what)


class Seen(unittest.TestCase):
    def setUp(self):
        self.machine = Machine([
            seg((0, 4, 7), "rwx", 0, [num(1)]), seg((0, 5, 5), "r", 0, [num(2), ptr(4, 0, 0)]),
            seg((7, 7, 7), "wx", 0, [num(3)]), seg((7, 7, 7), "r"), seg((0, 0, 0), "r", 0, [num(4)]),
        ])

    def test_what_a_ring_may_not_read_is_empty(self):
        pointers = ((7, 0, 0), None, None, (7, 1, BIG))
        words = [(num(1),), (num(2), ptr(4, 0, 0)), (num(3),), (), (num(4),)]
        for ring in range(8):
            told = seen(self.machine, stand_of(self.machine, ring, 9, pointers))
            self.assertEqual(told, (9, pointers, (
                words[0] if ring <= 4 else (), words[1] if ring <= 5 else (), (), (), words[4] if ring == 0 else (),
            )))

    def test_just_where_reading_is_allowed(self):
        for seed in range(40):
            machine = Draw(seed).machine(4, True)
            for ring in range(8):
                told = seen(machine, first(machine, ring))
                expected = [
                    machine.segment(number)[3] if way[0] else () for number, way in enumerate(allowed(machine, ring))
                ]
                self.assertEqual(told, (0, (None,) * 4, tuple(expected)))

    def test_the_words_are_the_stands_not_the_machines(self):
        stand = (3, 0, (None,) * 4, ((num(11),), (num(12), num(13)), (num(14),), (), (num(15),)))
        self.assertEqual(seen(self.machine, stand)[2], ((num(11),), (num(12), num(13)), (), (), ()))

    def test_kinds_and_arguments(self):
        told = seen(stand=first(self.machine, 3), machine=self.machine)
        self.assertEqual(told, seen(self.machine, first(self.machine, 3)))
        for part in (told, told[1], told[2], *told[2]):
            self.assertIs(type(part), tuple)


class Parting(Learned):
    def test_unlike_at_first(self):
        one = kept_within(num(3), LOADS)
        stand = stand_of(one, 5, 4, [(5, 0, 0), (6, 1, 0)])
        for other in [(5, 3, *stand[2:]), (*stand[:2], ((5, 0, 0), None, None, None), stand[3]),
                      (*stand[:2], ((5, 0, 0), (7, 1, 0), None, None), stand[3]),
                      (*stand[:3], ((num(3),), (), (num(1),)))]:
            for menu in ([], [AIM, CALL]):
                self.assertEqual(parting(one, one, stand, other, menu), [])
                self.assertIsNone(alike(one, one, stand, other, menu))
                self.assertEqual(parting(one, one, other, stand, menu, limit=1), [])

    def test_words_unlike_where_they_are_seen_and_where_not(self):
        one, other = kept_within(num(3), [RETURN]), kept_within(num(4), [RETURN])
        self.assertEqual(parting(one, other, *firsts(one, other, 1), []), [])
        self.assertEqual(parting(one, other, *firsts(one, other, 0), [AIM]), [])
        for ring in range(2, 8):
            self.assertIsNone(parting(one, other, *firsts(one, other, ring), [AIM, CALL, ("load", 0, 0), RETURN]))

    def test_the_words_of_the_stands_count(self):
        one = kept_within(num(3), LOADS)
        stand, other = first(one, 5), (*first(one, 5)[:3], ((num(8),), (), (num(0),)))
        self.assertEqual(parting(one, one, stand, other, [AIM, CALL]), [0, 1])
        other_machine = kept_within(num(8), LOADS)
        self.assertIsNone(parting(one, other_machine, stand, stand, [AIM, CALL]))

    def test_no_deeds_and_like_stands(self):
        one = kept_within(num(3), LOADS)
        self.assertIsNone(parting(one, one, *firsts(one, one), []))
        self.assertIsNone(parting(one, one, *firsts(one, one), [AIM, CALL]))
        other = kept_within(num(4), LOADS)
        self.assertIsNone(parting(one, other, *firsts(one, other), []))
        self.assertIsNone(parting(one, other, *firsts(one, other), [AIM]))

    def test_by_what_is_seen_in_a(self):
        one, other = kept_within(num(3), LOADS), kept_within(num(4), LOADS)
        self.assertEqual(parting(one, other, *firsts(one, other), [AIM, CALL]), [0, 1])
        self.assertEqual(parting(one, other, *firsts(one, other), [CALL, RETURN, AIM]), [2, 0])

    def test_by_what_is_seen_in_pointers(self):
        rows = [("aim", 1, 0, 0), ("fetch", 2, 1, 0), ("aim", 1, 0, 0), RETURN]
        one, other = kept_within(ptr(5, 1, 3), rows), kept_within(ptr(5, 1, 4), rows)
        self.assertEqual(parting(one, other, *firsts(one, other), [AIM, CALL]), [0, 1])
        # The ring of the word is less than the hand's, whatever it is.
        one, other = kept_within(ptr(2, 1, 3), rows), kept_within(ptr(3, 1, 3), rows)
        self.assertIsNone(parting(one, other, *firsts(one, other), [AIM, CALL]))

    def test_by_what_is_seen_in_words(self):
        rows = [("aim", 1, 0, 0), ("load", 1, 0), ("aim", 1, 2, 0), ("store", 1, 0), ("set", 0), RETURN]
        one, other = kept_within(num(3), rows), kept_within(num(4), rows)
        self.assertEqual(parting(one, other, *firsts(one, other), [AIM, CALL]), [0, 1])
        self.assertIsNone(parting(one, other, *firsts(one, other), [AIM, ("load", 0, 0)]))

    def test_by_what_is_told_alone(self):
        one, other = kept_within(num(3), TELLS), kept_within(ptr(5, 2, 0), TELLS)
        stand, other_stand = stand_of(one, 5, 0, [(5, 1, 0)]), stand_of(other, 5, 0, [(5, 1, 0)])
        behind, told = done(one, stand, CALL)
        other_behind, other_told = done(other, other_stand, CALL)
        self.assertEqual((told, other_told), (fault("kind"), fault("bounds")))
        self.assertEqual(seen(one, behind), seen(other, other_behind))
        self.assertEqual(parting(one, other, stand, other_stand, [ADD, CALL]), [1])
        self.assertEqual(parting(one, other, *firsts(one, other), [ADD, CALL, AIM]), [2, 1])
        # What the parting leads to is no pair that is found ahead of it.
        self.assertEqual(parting(one, other, stand, other_stand, [CALL], limit=1), [0])

    def test_the_shortest_and_the_least_of_these(self):
        one, other = kept_within(num(3), LOADS), kept_within(num(4), LOADS)
        self.assertEqual(parting(one, other, *firsts(one, other), [ADD, AIM, CALL]), [1, 2])
        self.assertEqual(parting(one, other, *firsts(one, other), [ADD, CALL, AIM, CALL, AIM]), [2, 1])
        self.assertEqual(parting(one, other, *firsts(one, other), [AIM, AIM, ADD, CALL, CALL]), [0, 3])
        # Two pointers, of two ways of one length.
        menu = [("call", 1), ("aim", 1, 1, 0), AIM, CALL]
        self.assertEqual(parting(one, other, *firsts(one, other), menu), [1, 0])
        menu = [("call", 1), AIM, CALL, ("aim", 1, 1, 0)]
        self.assertEqual(parting(one, other, *firsts(one, other), menu), [1, 2])

    def test_a_long_one(self):
        one, other = kept_within(num(3), COUNTS), kept_within(num(5), COUNTS)
        self.assertEqual(parting(one, other, *firsts(one, other), [AIM, CALL]), [0] + [1] * 11)
        self.assertEqual(parting(other, one, *firsts(other, one), [AIM, CALL]), [0] + [1] * 11)
        self.assertEqual(parting(one, other, *firsts(one, other), [CALL, AIM]), [1] + [0] * 11)
        self.assertEqual(parting(one, other, *firsts(one, other), [AIM, CALL], limit=12), [0] + [1] * 11)
        self.refused(TooMany, 11, parting, one, other, *firsts(one, other), [AIM, CALL], limit=11)
        self.refused(TooMany, 11, alike, one, other, *firsts(one, other), [AIM, CALL], limit=11)

    def test_the_limit_ahead_of_the_parting_and_behind_it(self):
        one, other = kept_within(num(3), LOADS), kept_within(num(4), LOADS)
        both = stand_of(one, 5, 0, [(5, 1, 0)]), stand_of(other, 5, 0, [(5, 1, 0)])
        for menu, limit, told in [([CALL, ADD], 1, [0]), ([ADD, CALL], 2, [1]), ([("set", 0), CALL], 1, [1]),
                                  ([ADD, ("add", 2), CALL], 3, [2])]:
            self.assertEqual(parting(one, other, *both, menu, limit=limit), told)
            self.assertIsNone(alike(one, other, *both, menu, limit=limit))
        for menu, limit in [([ADD, CALL], 1), ([ADD, ("add", 2), CALL], 2)]:
            self.refused(TooMany, limit, parting, one, other, *both, menu, limit=limit)
            self.refused(TooMany, limit, alike, one, other, *both, menu, limit=limit)

    def test_the_limit_where_there_is_no_parting(self):
        for base in (2, 10, 50):
            one, other = kept_within(num(0), LOADS, base=base), kept_within(num(1), LOADS, base=base)
            both = firsts(one, other)
            self.assertIsNone(parting(one, other, *both, [ADD], limit=base))
            self.assertEqual(len(alike(one, other, *both, [ADD], limit=base)), base)
            for function in (parting, alike):
                self.refused(TooMany, base - 1, function, one, other, *both, [ADD], limit=base - 1)

    def test_the_limit_is_400_where_it_is_left_out(self):
        one, other = kept_within(num(0), LOADS, base=400), kept_within(num(1), LOADS, base=400)
        self.assertIsNone(parting(one, other, *firsts(one, other), [ADD]))
        self.assertEqual(len(alike(one, other, *firsts(one, other), [ADD])), 400)
        one, other = kept_within(num(0), LOADS, base=401), kept_within(num(1), LOADS, base=401)
        for function in (parting, alike):
            self.refused(TooMany, 400, function, one, other, *firsts(one, other), [ADD])
        self.assertIsNone(parting(one, other, *firsts(one, other), [ADD], limit=401))

    def test_pairs_count_not_stands(self):
        """One machine's inner word has gone round behind two calls, the other's behind three: six pairs of them."""
        inner = [seg((1, 1, 1), "rw", 0, [num(0), num(n)]) for n in (1, 2)]
        counts = [("aim", 1, 0, 0), ("load", 1, 0), ("zero", 5), ("add", -1), ("go", 6), ("load", 1, 1),
                  ("store", 1, 0), ("set", 0), RETURN]
        one, other = [Machine([each, seg((1, 1, 7), "x", 1, (), counts)]) for each in inner]
        both = stand_of(one, 5, 0, [(5, 1, 0), (5, 0, 0)]), stand_of(other, 5, 0, [(5, 1, 0), (5, 0, 0)])
        self.assertEqual(len(alike(one, other, *both, [CALL])), 6)
        self.refused(TooMany, 5, parting, one, other, *both, [CALL], limit=5)

    def test_deeds_have_most_100(self):
        """From 1 on up the store is row 99 behind those ahead: the 100th one is done, the next is not."""
        for ahead, told in ((1, [0]), (2, None)):
            rows = [("aim", 1, 0, 0)] * ahead + [("zero", ahead + 3), ADD, ("go", ahead)]
            rows += [("load", 1, 0), ("store", 2, 0)]
            one, other = kept_within(num(3), rows, base=33), kept_within(num(4), rows, base=33)
            both = [stand_of(each, 5, 1, [(5, 1, 0), None, (5, 2, 0)]) for each in (one, other)]
            self.assertEqual(parting(one, other, *both, [CALL]), told)

    def test_against_all_rows_of_deeds(self):
        lengths = set()
        for seed in range(80):
            one, other, both, menu = drawn_pair(Draw(seed))
            expected = None
            for length in range(6):
                rows = [row for row in itertools.product(range(4), repeat=length)
                        if told_apart(one, other, *both, [menu[number] for number in row])]
                if rows:
                    expected = list(rows[0])
                    break
            if expected is not None:
                self.assertEqual(parting(one, other, *both, menu, limit=5000), expected)
                lengths.add(len(expected))
            else:
                try:
                    told = parting(one, other, *both, menu)
                except TooMany:
                    continue
                self.assertTrue(told is None or len(told) > 5)
        self.assertLessEqual({2, 4, 5}, lengths)


def drawn_pair(draw):
    """Two machines with unlike words in ring 1, their first stands of ring 5, and a menu.

    One gate counts an inner word up, one tells whether it is 0, and the third one does drawn rows.
    """
    pick = draw.random.randrange
    aim = ("aim", 1, 0, pick(2))
    rows = [aim, ("load", 1, 0), ("add", pick(1, 4)), ("store", 1, 0), ("set", 0), RETURN,
            aim, ("load", 1, 0), ("zero", 11), ("set", 0), RETURN, ("set", 1), RETURN,
            aim, draw.row(3, False), draw.row(3, False), RETURN]
    gate, outer = seg((1, 1, 7), "x", 17, (), rows), seg((7, 7, 7), "rw", 0, [num(0), ptr(5, 1, 0)])
    one, other = [Machine([seg((1, 1, 1), "rw", 0, [num(pick(4)), draw.word(3)]), gate, outer], base=4)
                  for machine in range(2)]
    menu = [("aim", 0, 1, 0), ("aim", 0, 1, 6), ("call", 0), draw.random.choice([("aim", 0, 1, 13), draw.row(3, True)])]
    draw.random.shuffle(menu)
    return one, other, firsts(one, other), menu


def told_apart(one, other, stand, other_stand, deeds):
    """Whether somewhere along the deeds, or at first, the two are seen unlike or told unlike."""
    if seen(one, stand) != seen(other, other_stand):
        return True
    for deed in deeds:
        stand, told = done(one, stand, deed)
        other_stand, other_told = done(other, other_stand, deed)
        if told != other_told or seen(one, stand) != seen(other, other_stand):
            return True
    return False


class Refused(Learned):
    def setUp(self):
        self.parts = [((1, 1, 1), "rw", 0, (num(3),), ()), ((1, 2, 7), "rx", 1, (num(1), num(2)), tuple(LOADS))]
        self.one = Machine(self.parts)

    def functions(self, one, other, stand, other_stand, menu):
        yield parting, (one, other, stand, other_stand, menu)
        yield alike, (one, other, stand, other_stand, menu)
        for pairs in ([], [(stand, other_stand)]):
            yield alike_holds, (one, other, stand, other_stand, menu, pairs)

    def all_refuse(self, kind, what, *arguments):
        for function, each in self.functions(*arguments):
            self.refused(kind, what, function, *each)

    def test_machines_unlike_in_each_thing(self):
        first_part, last = self.parts
        others = {
            "segments": Machine(self.parts + [first_part]),
            "fewer segments": Machine(self.parts[:1]),
            "base": Machine(self.parts, base=17),
            "words": Machine([first_part, (*last[:3], (num(1),), last[4])]),
            "more words": Machine([(*first_part[:3], (num(3), num(3)), ()), last]),
            "rows": Machine([first_part, (*last[:4], (("aim", 1, 0, 1), *LOADS[1:]))]),
            "number of rows": Machine([first_part, (*last[:4], (*LOADS, RETURN))]),
            "rows that never run": Machine([(*first_part[:4], (RETURN,)), last]),
            "rights": Machine([first_part, (last[0], "x", *last[2:])]),
            "other rights": Machine([(first_part[0], "r", *first_part[2:]), last]),
            "gates": Machine([first_part, (*last[:2], 2, *last[3:])]),
            "r1": Machine([first_part, ((0, 2, 7), *last[1:])]),
            "r2": Machine([first_part, ((1, 3, 7), *last[1:])]),
            "r3": Machine([first_part, ((1, 2, 6), *last[1:])]),
            "order": Machine(self.parts[::-1]),
        }
        for name, other in others.items():
            with self.subTest(name):
                for one, another in ((self.one, other), (other, self.one)):
                    stand, other_stand = firsts(one, another)
                    for menu in ([], [ADD], [("load", 4, 0)]):
                        self.all_refuse(Unlike, None, one, another, stand, other_stand, menu)

    def test_stands_with_unlike_rings(self):
        for ring, other_ring in [(5, 6), (6, 5), (0, 7)]:
            stand, other_stand = first(self.one, ring), first(self.one, other_ring)
            for menu in ([], [ADD], [("load", 4, 0)]):
                self.all_refuse(Unlike, None, self.one, self.one, stand, other_stand, menu)

    def test_words_may_be_unlike(self):
        words = [(ptr(7, 1, BIG),), (num(9), num(8))]
        other = Machine([(*part[:3], each, part[4]) for part, each in zip(self.parts, words)])
        for ring in range(8):
            stand, other_stand = firsts(self.one, other, ring)
            told = parting(self.one, other, stand, other_stand, [])
            self.assertEqual(told, [] if ring <= 2 else None)

    def test_a_faulty_deed(self):
        stand = first(self.one, 5)
        for menu, bad in [([("load", 4, 0)], ("load", 4, 0)), ([ADD, ("aim", 0, 2, 0), ("call", 4)], ("aim", 0, 2, 0)),
                          ([ADD, ("call", 4), ("aim", 0, 2, 0)], ("call", 4))]:
            self.all_refuse(NoDeed, bad, self.one, self.one, stand, stand, menu)
            for function in (parting, alike):
                self.refused(NoDeed, bad, function, self.one, self.one, stand, stand, menu, limit=1)
            # Stands that are seen unlike at first do not go ahead of it.
            self.all_refuse(NoDeed, bad, self.one, self.one, stand, (5, 3, *stand[2:]), menu)

    def test_too_many_goes_last(self):
        stand = first(self.one, 5)
        for function in (parting, alike):
            self.refused(TooMany, 3, function, self.one, self.one, stand, stand, [ADD], limit=3)
            other = Machine(self.parts, base=17)
            self.refused(Unlike, None, function, self.one, other, stand, stand, [ADD], limit=1)
            self.refused(Unlike, None, function, self.one, self.one, stand, first(self.one, 4), [ADD], limit=1)


class Alike(Learned):
    def setUp(self):
        """The gate tells only whether the inner word is 0, and in both machines it is not."""
        rows = [("aim", 1, 0, 0), ("load", 1, 0), ("zero", 4), ("set", 1), RETURN]
        self.one, self.other = kept_within(num(3), rows), kept_within(num(4), rows)
        self.both = firsts(self.one, self.other)
        self.menu = [AIM, CALL, ("set", 2)]

    def pairs(self):
        return alike(self.one, self.other, *self.both, self.menu)

    def holds(self, pairs, **other):
        named = {"one": self.one, "other": self.other, "stand": self.both[0], "other_stand": self.both[1], **other}
        named.setdefault("menu", self.menu)
        told = alike_holds(pairs=pairs, **named)
        self.assertIs(type(told), bool)
        return told

    def test_told_in_order(self):
        told = self.pairs()
        self.assertEqual([left[1:3] for left, right in told], [
            (0, (None,) * 4), (0, ((5, 1, 0), None, None, None)), (2, (None,) * 4),
            (1, ((5, 1, 0), (5, 0, 0), None, None)), (2, ((5, 1, 0), None, None, None)),
            (2, ((5, 1, 0), (5, 0, 0), None, None)),
        ])
        for left, right in told:
            self.assertEqual((left[:3], left[3]), (right[:3], ((num(3),), (), (num(0),))))
            self.assertEqual(right[3], ((num(4),), (), (num(0),)))

    def test_judged(self):
        told = self.pairs()
        self.assertIs(alike_holds(self.one, self.other, *self.both, self.menu, told), True)
        self.assertIsNone(parting(self.one, self.other, *self.both, self.menu))

    def test_none_where_there_is_a_parting(self):
        one, other = kept_within(num(3), LOADS), kept_within(num(4), LOADS)
        self.assertIsNone(alike(one, other, *firsts(one, other), self.menu))
        self.assertIsNone(alike(one, one, first(one, 5), (5, 1, *first(one, 5)[2:]), []))
        self.assertEqual(alike(one, other, *firsts(one, other), []), [firsts(one, other)])

    def test_a_pair_left_out(self):
        told = self.pairs()
        self.assertFalse(self.holds([]))
        for pair in told:
            self.assertFalse(self.holds([each for each in told if each != pair]))

    def test_told_twice_and_in_another_order(self):
        told = self.pairs()
        self.assertTrue(self.holds(told + told))
        self.assertTrue(self.holds(told[::-1]))
        self.assertTrue(self.holds(told[2:] + told[:2] + told[4:]))

    def test_no_deeds(self):
        self.assertTrue(self.holds([self.both], menu=[]))
        self.assertFalse(self.holds([], menu=[]))
        self.assertFalse(self.holds([self.both[::-1]], menu=[]))
        self.assertTrue(self.holds([self.both[::-1], self.both], menu=[]))

    def test_a_pair_is_no_two_stands(self):
        """Each stand is there, but not beside its own."""
        told = alike(self.one, self.other, *self.both, [("set", 2)])
        self.assertEqual(len(told), 2)
        (left, right), (left_behind, right_behind) = told
        self.assertTrue(self.holds([(left, right), (left_behind, right_behind)], menu=[("set", 2)]))
        hidden = (*right_behind[:3], ((num(9),), (), (num(0),)))
        self.assertFalse(self.holds([(left, right), (left_behind, hidden)], menu=[("set", 2)]))
        more = [(left, right), (left_behind, hidden), (left_behind, left_behind)]
        self.assertFalse(self.holds(more, menu=[("set", 2)]))
        self.assertFalse(self.holds([(left, right_behind), (left_behind, right)], menu=[("set", 2)]))

    def test_seen_unlike_in_a_pair(self):
        left, right = self.both
        for other in [(5, 7, *right[2:]), (*right[:3], ((num(4),), (), (num(1),))),
                      (5, 0, ((5, 0, 0), None, None, None), right[3])]:
            self.assertFalse(self.holds([(left, right), (left, other)], menu=[]))
            self.assertFalse(self.holds([(left, other), (left, right)], menu=[]))
            self.assertFalse(self.holds([(left, other)], menu=[], other_stand=other))
        self.assertTrue(self.holds([(left, right), (left, (*right[:3], ((num(9),), (), (num(0),))))], menu=[]))

    def test_what_is_told_unlike(self):
        one, other = kept_within(num(3), TELLS), kept_within(ptr(5, 2, 0), TELLS)
        both = [stand_of(each, 5, 0, [(5, 1, 0)]) for each in (one, other)]
        pairs = [tuple(both), firsts(one, other)]
        self.assertEqual([done(one, both[0], CALL)[0], done(other, both[1], CALL)[0]], list(firsts(one, other)))
        self.assertFalse(self.holds(pairs, one=one, other=other, stand=both[0], other_stand=both[1], menu=[CALL]))
        self.assertTrue(self.holds(pairs, one=one, other=other, stand=both[0], other_stand=both[1], menu=[RETURN]))

    def test_more_pairs_than_can_be_come_to(self):
        told = self.pairs()
        # Pairs with a 0 within are told apart from none, since both of them have it.
        more = [tuple((*stand[:3], ((num(0),), (), (num(0),))) for stand in firsts(self.one, self.other))]
        more = alike(self.one, self.other, *more[0], self.menu)
        self.assertTrue(self.holds(told + more))
        self.assertTrue(self.holds(more + told))
        self.assertFalse(self.holds(more))
        self.assertFalse(self.holds(told + more[:-1]))

    def test_the_rings_in_the_pairs_are_not_asked(self):
        """Nothing is seen of the inner word from the rings 2 on: there stands are alike, whatever their rings."""
        told = alike(self.one, self.other, *self.both, [ADD])
        for ring, other_ring, expected in [(5, 6, True), (6, 5, True), (2, 7, True), (7, 7, True), (1, 5, False),
                                           (5, 1, False), (1, 1, False)]:
            more = [
                ((ring, a, (None,) * 4, self.both[0][3]), (other_ring, a, (None,) * 4, self.both[1][3]))
                for a in range(16)
            ]
            self.assertIs(self.holds(told + more, menu=[ADD]), expected)
            self.assertFalse(self.holds(told + more[1:], menu=[ADD]))

    def test_each_of_the_two_is_seen_and_led_by_its_own_machine(self):
        """A gate of one machine's words, and the other's: the words that the stands bring count alone."""
        left, right = self.both
        swapped = [(stand[0], stand[1], stand[2], other[3]) for stand, other in ((left, right), (right, left))]
        pairs = alike(self.one, self.other, *swapped, self.menu)
        self.assertEqual(pairs[0], tuple(swapped))
        self.assertEqual(len(pairs), 6)

    def test_arguments_by_place_and_by_name(self):
        named = {"one": self.one, "other": self.other, "stand": self.both[0], "other_stand": self.both[1]}
        named["menu"] = self.menu
        for function in (parting, alike):
            told = function(self.one, self.other, *self.both, self.menu)
            self.assertEqual(function(limit=400, **named), told)
            self.assertEqual(function(**named), told)
            with self.assertRaises(TypeError):
                function(self.one, self.other, *self.both, self.menu, 400)
        self.assertIs(alike_holds(pairs=self.pairs(), **named), True)

    def test_lists_are_the_askers_own(self):
        told = self.pairs()
        self.assertIs(type(told), list)
        for pair in told:
            self.assertIs(type(pair), tuple)
            self.assertEqual(len(pair), 2)
        listed = list(told)
        self.holds(listed)
        self.assertEqual(listed, told)
        told.clear()
        self.assertEqual(self.pairs(), listed)
        self.assertEqual(self.menu, [AIM, CALL, ("set", 2)])
        one, other = kept_within(num(3), LOADS), kept_within(num(4), LOADS)
        numbers = parting(one, other, *firsts(one, other), self.menu)
        self.assertIs(type(numbers), list)
        numbers.clear()
        self.assertEqual(parting(one, other, *firsts(one, other), self.menu), [0, 1])

    def test_eight_hundred_pairs(self):
        one, other = kept_within(num(3), LOADS, base=800), kept_within(num(4), LOADS, base=800)
        told = alike(one, other, *firsts(one, other), [ADD, ("add", 7)], limit=800)
        self.assertEqual(len(told), 800)
        self.assertIs(alike_holds(one, other, *firsts(one, other), [ADD, ("add", 7)], told), True)
        self.assertIs(alike_holds(one, other, *firsts(one, other), [ADD, ("add", 7)], told[:-1]), False)

    def test_drawn(self):
        papers = partings = 0
        for seed in range(150):
            one, other, both, menu = drawn_pair(Draw(seed))
            try:
                told = alike(one, other, *both, menu, limit=100)
            except TooMany:
                self.refused(TooMany, 100, parting, one, other, *both, menu, limit=100)
                continue
            numbers = parting(one, other, *both, menu, limit=100)
            self.assertEqual(told is None, numbers is not None)
            if told is None:
                partings += 1
                self.assertTrue(told_apart(one, other, *both, [menu[at] for at in numbers]))
                continue
            papers += 1
            self.assertIs(alike_holds(one, other, *both, menu, told), True)
            self.assertIs(alike_holds(one, other, *both, menu, told[1:]), False)
            self.assertIs(alike_holds(one, other, *both, menu, told[:-1]), False)
        self.assertGreater(min(papers, partings), 10)


class Aiming(Learned):
    AIMS = [("set", 1), ("aim", 0, 0, 0), RETURN]
    NOT = [("set", 1), ("move", 0, 0, 0), RETURN]

    def test_each_ring_and_bracket(self):
        machine = Machine([seg((r1, 7, 7), "rwx", 0, (), self.AIMS) for r1 in range(8)])
        for ring in range(8):
            self.assertEqual(aiming(machine, ring), list(range(ring)))

    def test_each_of_the_rights(self):
        for rights in ("", "r", "w", "x", "rw", "rx", "wx", "rwx"):
            machine = Machine([seg((4, 5, 6), rights, 0, (), self.AIMS)])
            for ring in range(8):
                expected = "x" in rights and ("w" not in rights or ring > 4)
                self.assertEqual(aiming(machine, ring), [0] if expected else [])

    def test_rows_that_aim_and_rows_that_do_not(self):
        machine = Machine([
            seg((0, 0, 0), "x", 0, (), self.NOT), seg((0, 0, 0), "x", 0, (), self.AIMS), seg((0, 0, 0), "x"),
            seg((0, 0, 0), "x", 0, (), [("aim", 3, 0, -1)]),
            seg((0, 0, 0), "x", 0, (), [RETURN] * 23 + [("aim", 0, 0, 0)]),
        ])
        for ring in range(8):
            self.assertEqual(aiming(machine, ring), [1, 3, 4])

    def test_every_other_word(self):
        rows = [("set", 1), ADD, ("load", 0, 0), ("store", 0, 0), ("fetch", 0, 0, 0), ("keep", 0, 0, 0),
                ("move", 0, 0, 0), ("zero", 0), ("go", 0), ("call", 0), RETURN]
        self.assertEqual(aiming(Machine([seg((0, 0, 0), "x", 0, (), rows)]), 4), [])

    def test_no_ring(self):
        machine = Machine([seg((0, 0, 0), "x", 0, (), self.AIMS)])
        for ring in (-1, -8, 8, 9, BIG, -BIG):
            self.refused(NoRing, ring, aiming, machine, ring)
            self.refused(NoRing, ring, aiming, Machine([seg()]), ring)

    def test_kinds_and_arguments(self):
        machine = Machine([seg((0, 0, 0), "x", 0, (), self.AIMS)])
        told = aiming(ring=4, machine=machine)
        self.assertEqual((told, type(told)), ([0], list))
        told.append(1)
        self.assertEqual(aiming(machine, 4), [0])


if __name__ == "__main__":
    unittest.main()
