"""Point 21: how machines and deeds are written, and read back."""

import random
import re
import unittest

from ringgates.errors import NoMachine, NoText
from ringgates.machines import Machine
from ringgates.readings import read_deeds, read_machine
from ringgates.texts import show_deeds, show_machine
from tests.helper import BIG, Draw, num, ptr, seg

EXAMPLE = "16; 0.0.3 rx 1 [] (load 0 0, return); 4.4.4 rw 0 [3 4:1:0] ()"
SIXTY = "9" * 60
SIXTY_ONE = "1" + "0" * 60
EVERY_DEED = [
    ("set", 5), ("add", -3), ("load", 0, 1), ("store", 3, -1), ("fetch", 1, 2, 0), ("keep", 2, 1, -7),
    ("aim", 0, 0, 9), ("move", 3, 0, -2), ("zero", 4), ("go", -1), ("call", 2), ("return",),
]
EVERY_ROW = (
    "set 5, add -3, load 0 1, store 3 -1, fetch 1 2 0, keep 2 1 -7, aim 0 0 9, move 3 0 -2, zero 4, go -1, call 2,"
    " return"
)

# The same once more, by a pattern: what the texts of machines and deeds look like.
FIGURES = "(?:0|[1-9][0-9]{0,59})"
SIGNED = "(?:0|-?[1-9][0-9]{0,59})"
WORD = f"{FIGURES}(?::{FIGURES}:{FIGURES})?"
ROW = f"(?:return|(?:set|add|zero|go|call) {SIGNED}|(?:load|store) {SIGNED} {SIGNED}|(?:fetch|keep|aim|move)" + (
    f" {SIGNED}" * 3 + ")"
)
ROWS = f"{ROW}(?:, {ROW})*"
SEGMENT = (
    f"{FIGURES}\\.{FIGURES}\\.{FIGURES} (?:-|r|w|x|rw|rx|wx|rwx) {FIGURES} \\[(?:{WORD}(?: {WORD})*)?\\] \\((?:{ROWS})?\\)"
)
MACHINE = re.compile(f"{FIGURES}(?:; {SEGMENT})+")
DEEDS = re.compile(f"-|{ROWS}")


def is_refused(test, read, text):
    """Whether a text is refused, with NoText and the text."""
    try:
        read(text)
    except NoText as refusal:
        test.assertEqual(refusal.what, text)
        test.assertIs(type(refusal.what), str)
        return True
    return False


def spoiled(draw, text):
    """A text with one sign more, less or other, or with a part of it twice."""
    at = draw.randrange(len(text) + 1)
    more = draw.choice(" -.:;,[]()0123789rwxaeglst")
    return draw.choice([
        text[:at] + more + text[at:], text[:at] + text[at + 1:], text[:at] + more + text[at + 1:],
        text[:at] + text[max(0, at - draw.randrange(9)):], text[:at].upper() + text[at:],
    ])


class ShowMachine(unittest.TestCase):
    def test_the_example(self):
        machine = Machine([
            seg((0, 0, 3), "rx", 1, (), (("load", 0, 0), ("return",))),
            seg((4, 4, 4), "rw", 0, (num(3), ptr(4, 1, 0)), ()),
        ])
        self.assertEqual(show_machine(machine), EXAMPLE)

    def test_the_least_machine(self):
        self.assertEqual(show_machine(Machine([seg((0, 0, 0), "")], base=2)), "2; 0.0.0 - 0 [] ()")

    def test_every_right(self):
        for rights in ["r", "w", "x", "rw", "rx", "wx", "rwx"]:
            self.assertEqual(show_machine(Machine([seg((1, 2, 3), rights)])), f"16; 1.2.3 {rights} 0 [] ()")

    def test_every_row(self):
        machine = Machine([seg((0, 7, 7), "x", 12, (), EVERY_DEED)])
        self.assertEqual(show_machine(machine), f"16; 0.7.7 x 12 [] ({EVERY_ROW})")

    def test_greater_places_in_all_their_figures(self):
        place = int(SIXTY) + 5
        machine = Machine([seg((7, 7, 7), "r", 0, [ptr(7, 0, place), ptr(0, 0, place * 10 + 1)])])
        text = f"16; 7.7.7 r 0 [7:0:{place} 0:0:{place * 10 + 1}] ()"
        self.assertEqual(show_machine(machine), text)
        self.assertTrue(is_refused(self, read_machine, text))

    def test_numbers_of_sixty_figures(self):
        rows = (("set", -int(SIXTY)), ("aim", 0, 0, int(SIXTY)))
        machine = Machine([seg((0, 0, 0), "x", 0, [num(BIG), ptr(0, 0, BIG)], rows)], base=int(SIXTY))
        text = f"{SIXTY}; 0.0.0 x 0 [{BIG} 0:0:{BIG}] (set -{SIXTY}, aim 0 0 {SIXTY})"
        self.assertEqual(show_machine(machine), text)
        self.assertEqual(read_machine(text), machine)

    def test_like_machines_are_written_alike_and_unlike_ones_unlike(self):
        texts = {}
        for seed in range(200):
            machine = Draw(seed % 100).machine(3, True)
            texts.setdefault(show_machine(machine), []).append(machine)
        self.assertEqual(len(texts), 100)
        for same in texts.values():
            self.assertEqual(same[0], same[1])


class ReadMachine(unittest.TestCase):
    def test_the_example(self):
        machine = read_machine(EXAMPLE)
        self.assertIs(type(machine), Machine)
        self.assertEqual((len(machine), machine.base), (2, 16))
        self.assertEqual(machine.segment(0), ((0, 0, 3), "rx", 1, (), (("load", 0, 0), ("return",))))
        self.assertEqual(machine.segment(1), ((4, 4, 4), "rw", 0, (("num", 3), ("ptr", 4, 1, 0)), ()))

    def test_each_part_is_of_the_told_kind(self):
        def kinds(value):
            inner = [kinds(part) for part in value] if type(value) is tuple else []
            return {type(value)}.union(*inner)

        for number in range(2):
            segment = read_machine(EXAMPLE).segment(number)
            self.assertEqual(kinds(segment), {tuple, str, int})

    def test_what_is_written_is_read_back(self):
        for seed in range(300):
            machine = Draw(seed).machine(seed % 8, True)
            text = show_machine(machine)
            again = read_machine(text)
            self.assertEqual(again, machine)
            self.assertFalse(again != machine)
            self.assertEqual(show_machine(again), text)

    def test_the_greatest_machine(self):
        words = [num(at) for at in range(15)] + [ptr(7, 7, 99)]
        rows = [("fetch", 3, 3, -9)] * 24
        machine = Machine([seg((0, 3, 7), "rwx", 24, words, rows)] * 8)
        self.assertEqual(read_machine(show_machine(machine)), machine)

    def test_each_reading_is_a_machine_of_its_own(self):
        self.assertIsNot(read_machine(EXAMPLE), read_machine(EXAMPLE))

    def test_texts_with_a_blank_too_many_or_too_few(self):
        for at, sign in enumerate(EXAMPLE):
            self.assertTrue(is_refused(self, read_machine, EXAMPLE[:at] + " " + EXAMPLE[at:]))
            if sign == " ":
                self.assertTrue(is_refused(self, read_machine, EXAMPLE[:at] + EXAMPLE[at + 1:]))
        self.assertTrue(is_refused(self, read_machine, EXAMPLE + " "))

    def test_texts_with_any_sign_left_out(self):
        # A base of 6 would do, and fewer rights.
        read_back = [
            at for at in range(len(EXAMPLE)) if not is_refused(self, read_machine, EXAMPLE[:at] + EXAMPLE[at + 1:])
        ]
        self.assertEqual([EXAMPLE[at] for at in read_back], ["1", "r", "x", "r", "w"])

    def test_texts_that_write_no_machine(self):
        for text in [
            "", " ", "-", ";", "; ", "16", "16;", "16; ", "16;;", "x", "16; -", "sixteen; 0.0.0 - 0 [] ()",
            "; 0.0.0 - 0 [] ()", "0.0.0 - 0 [] ()", "16, 0.0.0 - 0 [] ()", "16;0.0.0 - 0 [] ()",
            "16 ; 0.0.0 - 0 [] ()", "16; 0.0.0 - 0 [] ();", "16; 0.0.0 - 0 [] (); ", "16; ; 0.0.0 - 0 [] ()",
            # the base
            "1; 0.0.0 - 0 [] ()", "0; 0.0.0 - 0 [] ()", "-2; 0.0.0 - 0 [] ()", "+2; 0.0.0 - 0 [] ()",
            "02; 0.0.0 - 0 [] ()", "00; 0.0.0 - 0 [] ()", "1_6; 0.0.0 - 0 [] ()", "2.0; 0.0.0 - 0 [] ()",
            "0x10; 0.0.0 - 0 [] ()", "1 6; 0.0.0 - 0 [] ()", "16 16; 0.0.0 - 0 [] ()",
            # brackets
            "16; 0.0 - 0 [] ()", "16; 0.0.0.0 - 0 [] ()", "16; 0..0 - 0 [] ()", "16; .0.0 - 0 [] ()",
            "16; 0.0. - 0 [] ()", "16; 1.0.1 - 0 [] ()", "16; 0.2.1 - 0 [] ()", "16; 0.0.8 - 0 [] ()",
            "16; -1.0.0 - 0 [] ()", "16; -0.0.0 - 0 [] ()", "16; 00.0.0 - 0 [] ()", "16; 0.0.07 - 0 [] ()",
            "16; 0,0,0 - 0 [] ()", "16; 0:0:0 - 0 [] ()", "16;  - 0 [] ()",
            # rights
            "16; 0.0.0 0 [] ()", "16; 0.0.0  0 [] ()", "16; 0.0.0 wr 0 [] ()", "16; 0.0.0 rr 0 [] ()",
            "16; 0.0.0 xr 0 [] ()", "16; 0.0.0 R 0 [] ()", "16; 0.0.0 rWx 0 [] ()", "16; 0.0.0 c 0 [] ()",
            "16; 0.0.0 -r 0 [] ()", "16; 0.0.0 -- 0 [] ()", "16; 0.0.0 r-x 0 [] ()", "16; 0.0.0 none 0 [] ()",
            # gates
            "16; 0.0.0 -  [] ()", "16; 0.0.0 - [] ()", "16; 0.0.0 - 1 [] ()", "16; 0.0.0 - 00 [] ()",
            "16; 0.0.0 - -0 [] ()", "16; 0.0.0 - -1 [] ()", "16; 0.0.0 - 2 [] (return)", "16; 0.0.0 - 01 [] (return)",
            "16; 0.0.0 - - [] ()",
            # words
            "16; 0.0.0 - 0 ()", "16; 0.0.0 - 0  ()", "16; 0.0.0 - 0 [ ] ()", "16; 0.0.0 - 0 [][] ()",
            "16; 0.0.0 - 0 [16] ()", "16; 0.0.0 - 0 [-1] ()", "16; 0.0.0 - 0 [-0] ()", "16; 0.0.0 - 0 [01] ()",
            "16; 0.0.0 - 0 [1  2] ()", "16; 0.0.0 - 0 [1 ] ()", "16; 0.0.0 - 0 [ 1] ()", "16; 0.0.0 - 0 [1, 2] ()",
            "16; 0.0.0 - 0 [1,2] ()", "16; 0.0.0 - 0 [-] ()", "16; 0.0.0 - 0 [a] ()", "16; 0.0.0 - 0 [1 2 ()",
            "16; 0.0.0 - 0 1 2] ()", "16; 0.0.0 - 0 (1) ()", "16; 0.0.0 - 0 [1]] ()", "16; 0.0.0 - 0 [[1] ()",
            "16; 0.0.0 - 0 [0:0] ()", "16; 0.0.0 - 0 [0:0:0:0] ()", "16; 0.0.0 - 0 [:0:0] ()",
            "16; 0.0.0 - 0 [0::0] ()", "16; 0.0.0 - 0 [0:0:] ()", "16; 0.0.0 - 0 [8:0:0] ()",
            "16; 0.0.0 - 0 [0:1:0] ()", "16; 0.0.0 - 0 [0:0:-1] ()", "16; 0.0.0 - 0 [0:0:-0] ()",
            "16; 0.0.0 - 0 [0:0:00] ()", "16; 0.0.0 - 0 [0:00:0] ()", "16; 0.0.0 - 0 [-1:0:0] ()",
            "16; 0.0.0 - 0 [0: 0:0] ()", "16; 0.0.0 - 0 x] ()", "16; 0.0.0 - 0 x1] ()", "16; 0.0.0 - 0 (] ()",
            # rows
            "16; 0.0.0 - 0 [] (x", "16; 0.0.0 - 0 [] (]", "16; 0.0.0 - 0 [] (returnx", "16; 0.0.0 - 0 [] (return]",
            "16; 0.0.0 - 0 [)", "16; 0.0.0 - 0 [1)", "16; 0.0.0 - 0 [", "16; 0.0.0 - 0 ",
            "16; 0.0.0 - 0 []", "16; 0.0.0 - 0 [] ", "16; 0.0.0 - 0 []()", "16; 0.0.0 - 0 [] ( )",
            "16; 0.0.0 - 0 [] (", "16; 0.0.0 - 0 [] )", "16; 0.0.0 - 0 [] []", "16; 0.0.0 - 0 [] () ",
            "16; 0.0.0 - 0 [] ()()", "16; 0.0.0 - 0 [] (-)", "16; 0.0.0 - 0 [] (return,)",
            "16; 0.0.0 - 0 [] (return, )", "16; 0.0.0 - 0 [] (, return)", "16; 0.0.0 - 0 [] (return,return)",
            "16; 0.0.0 - 0 [] (return ,return)", "16; 0.0.0 - 0 [] (return,  return)", "16; 0.0.0 - 0 [] (return 0)",
            "16; 0.0.0 - 0 [] (return; return)", "16; 0.0.0 - 0 [] (Return)", "16; 0.0.0 - 0 [] (RETURN)",
            "16; 0.0.0 - 0 [] (set)", "16; 0.0.0 - 0 [] (set )", "16; 0.0.0 - 0 [] (set 1 2)",
            "16; 0.0.0 - 0 [] (set  1)", "16; 0.0.0 - 0 [] (set1)", "16; 0.0.0 - 0 [] (set -0)",
            "16; 0.0.0 - 0 [] (set +1)", "16; 0.0.0 - 0 [] (set 01)", "16; 0.0.0 - 0 [] (set -01)",
            "16; 0.0.0 - 0 [] (set --1)", "16; 0.0.0 - 0 [] (set 1-)", "16; 0.0.0 - 0 [] (set -)",
            "16; 0.0.0 - 0 [] (set a)", "16; 0.0.0 - 0 [] (set 1.0)", "16; 0.0.0 - 0 [] (set 1_0)",
            "16; 0.0.0 - 0 [] (set 1)(set 1)", "16; 0.0.0 - 0 [] (set 1))", "16; 0.0.0 - 0 [] ((set 1)",
            "16; 0.0.0 - 0 [] (load 4 0)", "16; 0.0.0 - 0 [] (load -1 0)", "16; 0.0.0 - 0 [] (load 0)",
            "16; 0.0.0 - 0 [] (aim 0 1 0)", "16; 0.0.0 - 0 [] (aim 0 -1 0)", "16; 0.0.0 - 0 [] (jump 0)",
        ]:
            with self.subTest(text):
                self.assertTrue(is_refused(self, read_machine, text))

    def test_too_many(self):
        one = "; 0.0.0 - 0 [] ()"
        self.assertEqual(len(read_machine("16" + one * 8)), 8)
        self.assertTrue(is_refused(self, read_machine, "16" + one * 9))
        words = "16; 0.0.0 - 0 [%s] ()"
        self.assertEqual(len(read_machine(words % " ".join(["1"] * 16)).segment(0)[3]), 16)
        self.assertTrue(is_refused(self, read_machine, words % " ".join(["1"] * 17)))
        rows = "16; 0.0.0 - 0 [] (%s)"
        self.assertEqual(len(read_machine(rows % ", ".join(["return"] * 24)).segment(0)[4]), 24)
        self.assertTrue(is_refused(self, read_machine, rows % ", ".join(["return"] * 25)))

    def test_sixty_figures_and_sixty_one(self):
        for text in [
            "%s; 0.0.0 - 0 [] ()", "16; 7.7.7 r 0 [0:0:%s] ()", "16; 0.0.0 - 0 [] (set %s)", "16; 0.0.0 - 0 [] (go -%s)",
            "16; 0.0.0 - 0 [] (move 0 0 -%s)", "16; 0.0.0 - 0 [] (aim 3 0 %s)", f"{SIXTY}; 0.0.0 - 0 [%s] ()",
        ]:
            with self.subTest(text):
                figures = str(BIG)
                self.assertEqual(show_machine(read_machine(text % figures)), text % figures)
                self.assertTrue(is_refused(self, read_machine, text % SIXTY_ONE))
                self.assertTrue(is_refused(self, read_machine, text % ("0" + figures)))
                self.assertTrue(is_refused(self, read_machine, text % ("9" * 3000)))

    def test_every_sign_in_the_place_of_a_figure(self):
        for sign in map(chr, range(ord(" "), ord("~") + 1)):
            if sign.isdigit():
                self.assertEqual(read_machine(f"16; 0.0.0 - 0 [{sign}] ()").segment(0)[3], (num(int(sign)),))
                self.assertEqual(read_deeds(f"set {sign}, go 1{sign}"), [("set", int(sign)), ("go", 10 + int(sign))])
                continue
            for text in ("16; 0.0.0 - 0 [%s] ()", "16; 0.0.0 - 0 [1%s] ()", "16; 0.0.%s - 0 [] ()", "1%s; 0.0.0 - 0 [] ()"):
                self.assertTrue(is_refused(self, read_machine, text % sign))
            for text in ("set %s", "set 1%s", "load %s 0"):
                self.assertTrue(is_refused(self, read_deeds, text % sign))

    def test_texts_with_numbers_that_are_figures_of_another_kind(self):
        for figure in "\u0663\u00b2\uff11":
            self.assertTrue(is_refused(self, read_machine, f"16; 0.0.0 - 0 [{figure}] ()"))
            self.assertTrue(is_refused(self, read_deeds, f"set {figure}"))

    def test_spoiled_texts_are_read_just_where_they_write_a_machine(self):
        draw, read, refused = random.Random(21), 0, 0
        for seed in range(60):
            text = show_machine(Draw(seed).machine(3, True))
            for time in range(60):
                other = spoiled(draw, text)
                if is_refused(self, read_machine, other):
                    refused += 1
                    self.assertFalse(self.writes_a_machine(other), other)
                else:
                    read += 1
                    self.assertIsNotNone(MACHINE.fullmatch(other), other)
                    self.assertEqual(show_machine(read_machine(other)), other)
        self.assertGreater(min(read, refused), 200)

    def writes_a_machine(self, text):
        """Whether a text that was refused looks like a machine's, and its segments would make one."""
        if not MACHINE.fullmatch(text):
            return False
        base, *parts = text.split("; ")
        segments = []
        for part in parts:
            brackets, rights, gates, rest = part.split(" ", 3)
            words, rows = rest[1:-1].split("] (")
            segments.append((
                tuple(map(int, brackets.split("."))), rights.strip("-"), int(gates),
                tuple(self.word(word) for word in words.split()),
                tuple(tuple(self.parts(row)) for row in rows.split(", ") if row),
            ))
        try:
            Machine(segments, base=int(base))
        except NoMachine:
            return False
        return True

    def word(self, text):
        return ("ptr", *map(int, text.split(":"))) if ":" in text else ("num", int(text))

    def parts(self, row):
        word, *numbers = row.split(" ")
        return [word] + [int(number) for number in numbers]


class Deeds(unittest.TestCase):
    def test_none(self):
        self.assertEqual(show_deeds([]), "-")
        self.assertEqual(read_deeds("-"), [])

    def test_every_deed(self):
        self.assertEqual(show_deeds(EVERY_DEED), EVERY_ROW)
        told = read_deeds(EVERY_ROW)
        self.assertEqual(told, EVERY_DEED)
        self.assertIs(type(told), list)
        self.assertEqual({type(deed) for deed in told}, {tuple})
        self.assertEqual({type(number) for deed in told for number in deed[1:]}, {int})

    def test_one(self):
        self.assertEqual(show_deeds([("return",)]), "return")
        self.assertEqual(read_deeds("return"), [("return",)])
        self.assertEqual(show_deeds([("aim", 0, 1, -5)]), "aim 0 1 -5")

    def test_whether_a_machine_has_what_they_name_is_not_asked(self):
        deeds = [("load", 4, 0), ("aim", -1, 99, -5), ("call", BIG), ("keep", -BIG, 8, 0), ("fetch", 0, -2, 1)]
        text = f"load 4 0, aim -1 99 -5, call {BIG}, keep -{BIG} 8 0, fetch 0 -2 1"
        self.assertEqual(show_deeds(deeds), text)
        self.assertEqual(read_deeds(text), deeds)

    def test_a_list_of_any_length(self):
        for many in (1, 60, 61, 500):
            deeds = [("set", at - 9) for at in range(many)]
            self.assertEqual(read_deeds(show_deeds(deeds)), deeds)

    def test_sixty_figures_and_sixty_one(self):
        for text in ["set %s", "set -%s", "load %s 0", "aim 0 -%s 0", "move 0 0 %s, return", "return, call %s"]:
            figures = str(BIG)
            self.assertEqual(show_deeds(read_deeds(text % figures)), text % figures)
            self.assertEqual(show_deeds(read_deeds(text % SIXTY)), text % SIXTY)
            self.assertTrue(is_refused(self, read_deeds, text % SIXTY_ONE))
            self.assertTrue(is_refused(self, read_deeds, text % ("0" + figures)))
            self.assertTrue(is_refused(self, read_deeds, text % ("0" * 60)))

    def test_greater_numbers_are_written_in_all_their_figures(self):
        self.assertEqual(show_deeds([("move", 0, 0, int(SIXTY_ONE))]), "move 0 0 " + SIXTY_ONE)

    def test_texts_that_write_no_deeds(self):
        for text in [
            "", " ", "--", "- ", " -", "-, return", "return, -", "none", ",", ", ", "return,", "return, ", ", return",
            "return,return", "return,  return", "return , return", "return return", " return", "return ", "return 0",
            "return; return", "Return", "RETURN", "return.", "(return)", "[return]", "rest", "jump 1", "num 1",
            "set", "set ", "set  1", " set 1", "set 1 ", "set 1 1", "set1", "Set 1", "SET 1", "set -0", "set 00",
            "set 01", "set -01", "set +1", "set --1", "set 1-", "set -", "set a", "set 1.0", "set 1e3", "set 0x1",
            "set 1_0", "set 1,", "set 1, set", "set, 1", "set -1 -", "load 0", "load 0 0 0", "load 0, 0", "load 0,0",
            "store 1", "fetch 0 0", "keep 0 0 0 0", "aim 0 0", "move 0 0", "zero", "go", "go 0 0", "call", "call 0 0",
            "load 00 0", "aim 0 0 -0", "move -0 0 0", "fetch 0 -0 1", "set one", "call -", "call none",
        ]:
            with self.subTest(text):
                self.assertTrue(is_refused(self, read_deeds, text))

    def test_what_is_written_is_read_back(self):
        for seed in range(150):
            draw = Draw(seed)
            deeds = draw.deeds(draw.machine(3, True))
            text = show_deeds(deeds)
            self.assertEqual(read_deeds(text), deeds)
            self.assertEqual(show_deeds(read_deeds(text)), text)

    def test_spoiled_texts_are_read_just_where_they_write_deeds(self):
        draw, read, refused = random.Random(22), 0, 0
        for time in range(4000):
            text = spoiled(draw, show_deeds(draw.sample(EVERY_DEED, draw.randrange(3))))
            if DEEDS.fullmatch(text):
                read += 1
                self.assertEqual(show_deeds(read_deeds(text)), text)
            else:
                refused += 1
                self.assertTrue(is_refused(self, read_deeds, text), text)
        self.assertGreater(min(read, refused), 300)

    def test_every_list_is_the_askers_own(self):
        for text in ("-", "set 1, return"):
            told = read_deeds(text)
            told.append(("go", 1))
            self.assertEqual(show_deeds(read_deeds(text)), text)

    def test_nothing_that_is_handed_in_is_changed(self):
        deeds = list(EVERY_DEED)
        show_deeds(deeds)
        self.assertEqual(deeds, EVERY_DEED)
        machine = read_machine(EXAMPLE)
        show_machine(machine)
        self.assertEqual(machine, read_machine(EXAMPLE))

    def test_arguments_by_their_names(self):
        self.assertEqual(show_deeds(deeds=[("return",)]), "return")
        self.assertEqual(read_deeds(text="return"), [("return",)])
        self.assertEqual(show_machine(machine=read_machine(text=EXAMPLE)), EXAMPLE)


if __name__ == "__main__":
    unittest.main()
