"""Points 22 and 23: the desk."""

import unittest

from ringgates.deeds import done, first
from ringgates.desk import Desk
from ringgates.errors import NoDeed, NoRing, NoRow, NoSegment, NoText, RingError
from ringgates.learning import aiming
from ringgates.machines import allowed
from ringgates.texts import show_deeds, show_machine
from ringgates.traces import done_all, trace
from tests.helper import BIG, drawn

TEXT = (
    "16; 0.0.5 rx 1 [7] (load 1 0, add 1, store 1 0, return); 5.5.5 rw 0 [3 5:1:0] (); 2.5.6 r 0 [] ();"
    " 1.1.7 x 1 [] (aim 1 4 0, store 1 0, return); 1.1.1 rw 0 [3] (); 4.4.7 wx 0 [] (aim 0 0 0)"
)
READY = "do aim 0 0 0, aim 1 1 0"


def desk_of(text=TEXT, ring=5):
    """A desk with this machine and a hand in this ring."""
    desk = Desk()
    desk.say("machine " + text)
    desk.say(f"sit {ring}")
    return desk


def answers(desk, rows):
    return [desk.say(row) for row in rows]


def all_of(desk, many=6):
    """All that a desk tells but of what can be taken back."""
    return answers(desk, ["show", "table", "aims"] + [f"see {number}" for number in range(many)])


class Refusals(unittest.TestCase):
    def refused(self, desk, row, kind, what):
        with self.subTest(row):
            with self.assertRaises(RingError) as caught:
                desk.say(row)
            self.assertIs(type(caught.exception), kind)
            self.assertEqual(caught.exception.what, what)
            self.assertIs(type(caught.exception.what), type(what))


class FirstDesk(Refusals):
    def test_its_machine_and_stand(self):
        desk = Desk()
        self.assertEqual(desk.say("show"), "0 - - - -")
        self.assertEqual(desk.say("see 0"), "0")
        self.assertEqual(desk.say("table"), "; ".join(["rw"] * 8))
        self.assertEqual(desk.say("aims"), "none")
        self.refused(desk, "see 1", NoSegment, 1)
        self.refused(desk, "back", NoDeed, None)

    def test_its_hand_sits_in_ring_seven(self):
        self.assertEqual(answers(Desk(), ["do aim 0 0 0", "show"]), ["done", "0 7:0:0 - - -"])

    def test_its_base_is_two(self):
        desk = Desk()
        self.assertEqual(answers(desk, ["do set 3", "show", "do add 1", "show"]), ["done", "1 - - - -", "done", "0 - - - -"])

    def test_its_word_may_be_written(self):
        desk = Desk()
        self.assertEqual(desk.say("do aim 0 0 0, set 1, store 0 0, keep 0 0 0, load 0 0"), "done done done done kind")
        self.assertEqual(answers(desk, ["see 0", "back", "see 0", "back", "see 0", "back", "see 0"]), [
            "7:0:0", "ok", "7:0:0", "ok", "1", "ok", "0"])

    def test_the_row_may_be_handed_in_by_its_name(self):
        self.assertEqual(Desk().say(row="table"), "; ".join(["rw"] * 8))


class MachineAndSit(Refusals):
    def test_a_machine_and_a_first_stand_of_ring_seven(self):
        desk = Desk()
        self.assertEqual(desk.say("machine " + TEXT), "ok")
        self.assertEqual(all_of(desk), [
            "0 - - - -",
            "rx rw r - rw w; c rw r x rw w; c rw r c - w; c rw r c - w; c rw r c - wx; c rw r c - c; - - - c - c;"
            " - - - c - c",
            "3 5", "hidden", "hidden", "hidden", "hidden", "hidden", "hidden",
        ])
        self.assertEqual(desk.say("do aim 0 1 0"), "done")
        self.assertEqual(desk.say("show"), "0 7:1:0 - - -")

    def test_sit(self):
        desk = desk_of()
        for ring in range(8):
            self.assertEqual(desk.say(f"sit {ring}"), "ok")
            self.assertEqual(answers(desk, ["do aim 3 4 2", "show"]), ["done", f"0 - - - {ring}:4:2"])

    def test_sit_is_a_first_stand(self):
        desk = desk_of()
        answers(desk, [READY, "do call 0"])
        self.assertEqual(answers(desk, ["show", "see 1"]), ["4 5:0:0 5:1:0 - -", "4 5:1:0"])
        self.assertEqual(answers(desk, ["sit 5", "show", "see 1"]), ["ok", "0 - - - -", "3 5:1:0"])

    def test_the_same_machine_again_is_a_first_stand(self):
        desk = desk_of()
        answers(desk, [READY, "do call 0"])
        self.assertEqual(answers(desk, ["machine " + TEXT, "show", "sit 5", "see 1"]), [
            "ok", "0 - - - -", "ok", "3 5:1:0"])

    def test_a_machine_takes_the_hand_back_to_ring_seven(self):
        desk = desk_of(ring=3)
        self.assertEqual(answers(desk, ["machine " + TEXT, "see 1", "do aim 0 1 0", "show"]), [
            "ok", "hidden", "done", "0 7:1:0 - - -"])

    def test_machine_and_sit_leave_no_deed(self):
        desk = desk_of()
        for row in ["sit 5", "sit 0", "machine " + TEXT]:
            desk.say("do set 1, set 2")
            self.assertEqual(desk.say(row), "ok")
            self.refused(desk, "back", NoDeed, None)

    def test_machines_that_are_none(self):
        desk = desk_of()
        for text in ["", " ", "x", " " + TEXT, TEXT + " ", "-", "16; 0.0.8 - 0 [] ()", "1; 0.0.0 - 0 [] ()",
                     "16; 0.0.0 - 0 [] (load 4 0)", "16; 0.0.0 - 0 [] (set -0)", "016; 0.0.0 - 0 [] ()", TEXT.upper()]:
            self.refused(desk, "machine " + text, NoText, text)
        figures = "1" + "0" * 60
        self.refused(desk, f"machine {figures}; 0.0.0 - 0 [] ()", NoText, f"{figures}; 0.0.0 - 0 [] ()")

    def test_rings_that_are_none(self):
        desk = desk_of()
        for ring in [8, 9, 10, 77, 100, 999]:
            self.refused(desk, f"sit {ring}", NoRing, ring)


class DoAndBack(Refusals):
    def test_what_each_deed_told(self):
        desk = desk_of()
        self.assertEqual(desk.say("do set 5"), "done")
        self.assertEqual(desk.say("do load 0 0"), "pointer")
        self.assertEqual(desk.say("do aim 0 1 0, load 0 1, aim 0 1 0, load 0 9, aim 0 0 0, load 0 0, return"),
                         "done kind done bounds done read hand")
        self.assertEqual(desk.say("do aim 0 2 0, call 0, aim 0 0 9, call 0, aim 0 0 1, call 0"),
                         "done run done entry done gate")

    def test_every_other_cause(self):
        desk = desk_of("4; 0.7.7 rx 0 [0] (go 0, call 0, zero 9, return); 1.1.2 x 1 [] (return)", 3)
        self.assertEqual(desk.say("do aim 0 0 0, store 0 0, aim 0 0 0, call 0, aim 0 0 1, call 0, aim 0 0 2, call 0"),
                         "done write done long done deep done row")
        self.assertEqual(desk.say("do aim 0 1 0, call 0, go 0, zero 0"), "done call hand hand")

    def test_none(self):
        desk = desk_of()
        self.assertEqual(desk.say("do -"), "none")
        self.refused(desk, "back", NoDeed, None)
        self.assertEqual(answers(desk, ["do set 3", "do -", "show", "back", "show"]), [
            "done", "none", "3 - - - -", "ok", "0 - - - -"])

    def test_however_many(self):
        desk = desk_of()
        self.assertEqual(desk.say("do " + ", ".join(["add 1"] * 300)), " ".join(["done"] * 300))
        self.assertEqual(desk.say("show"), f"{300 % 16} - - - -")
        for left in range(299, -1, -1):
            self.assertEqual(answers(desk, ["back", "show"]), ["ok", f"{left % 16} - - - -"])
        self.refused(desk, "back", NoDeed, None)

    def test_back_takes_back_one_deed_of_a_row(self):
        desk = desk_of()
        answers(desk, [READY, "do call 0, call 0"])
        self.assertEqual(answers(desk, ["see 1", "back", "see 1", "show", "back", "see 1", "show", "back", "show"]), [
            "5 5:1:0", "ok", "4 5:1:0", "4 5:0:0 5:1:0 - -", "ok", "3 5:1:0", "0 5:0:0 5:1:0 - -", "ok",
            "0 5:0:0 - - -"])

    def test_back_behind_a_fault(self):
        desk = desk_of()
        answers(desk, [READY, "do set 9"])
        self.assertEqual(answers(desk, ["do load 0 0", "show", "back", "show"]), [
            "read", "0 - - - -", "ok", "9 5:0:0 5:1:0 - -"])

    def test_words_stay_as_they_are_by_a_fault_and_come_back(self):
        desk = desk_of("8; 2.7.7 rwx 0 [1] (set 5, store 0 0, return, set 6, store 0 0, load 1 0)", 2)
        self.assertEqual(answers(desk, ["do aim 0 0 0, aim 2 0 3, call 2", "see 0", "show", "back", "see 0", "show"]), [
            "done done pointer", "6", "0 - - - -", "ok", "1", "0 2:0:0 - 2:0:3 -"])

    def test_deeds_behind_a_back(self):
        desk = desk_of()
        answers(desk, ["do set 1, set 2", "back", "do set 3"])
        self.assertEqual(answers(desk, ["show", "back", "show", "back", "show"]), [
            "3 - - - -", "ok", "1 - - - -", "ok", "0 - - - -"])
        self.refused(desk, "back", NoDeed, None)

    def test_asking_is_no_deed(self):
        desk = desk_of()
        answers(desk, ["do set 1", "show", "see 1", "touch set 2", "table", "aims", "back"])
        self.assertEqual(desk.say("show"), "0 - - - -")
        self.refused(desk, "back", NoDeed, None)

    def test_most_is_a_hundred_rows(self):
        # Thirty-two rounds of three rows, then two and those at the end: 99 rows where nothing is put in.
        text = "33; 0.7.7 x 0 [] (add 1, zero 3, go 0, {}return)"
        for put_in, told in [("", "done"), ("add 0, ", "done"), ("add 0, add 0, ", "long")]:
            self.assertEqual(desk_of(text.format(put_in)).say("do aim 0 0 0, call 0"), "done " + told)

    def test_texts_that_write_no_deeds(self):
        desk = desk_of()
        for text in ["", " ", "--", "- ", "none", "set", "set 01", "set -0", "SET 1", "set  1", "set 1,set 2", "set 1 ",
                     " set 1", "set 1, ", "set 1, -", "jump 1", "return 0", "set 1" + "0" * 60]:
            self.refused(desk, "do " + text, NoText, text)

    def test_faulty_deeds(self):
        desk = desk_of()
        for text, deed in [
            ("load 4 0", ("load", 4, 0)), ("load -1 0", ("load", -1, 0)), ("aim 0 6 0", ("aim", 0, 6, 0)),
            ("aim 0 -1 0", ("aim", 0, -1, 0)), ("set 1, call 4", ("call", 4)), (f"call {BIG}", ("call", BIG)),
            ("aim 4 9 0, aim 5 0 0", ("aim", 4, 9, 0)), ("return, keep 0 9 0, keep 9 0 0", ("keep", 0, 9, 0)),
        ]:
            self.refused(desk, "do " + text, NoDeed, deed)


class Asking(Refusals):
    def test_show(self):
        desk = desk_of()
        self.assertEqual(desk.say("show"), "0 - - - -")
        answers(desk, ["do set 15, aim 1 2 30, aim 3 0 0"])
        self.assertEqual(desk.say("show"), "15 - 5:2:30 - 5:0:0")

    def test_places_in_all_their_figures(self):
        desk = desk_of()
        most = "9" * 60
        answers(desk, [f"do aim 0 1 {most}, move 1 0 {most}, move 2 1 {most}, aim 3 1 0, keep 2 3 0"])
        once, twice, thrice = int(most), 2 * int(most), 3 * int(most)
        self.assertEqual(desk.say("show"), f"0 5:1:{once} 5:1:{twice} 5:1:{thrice} 5:1:0")
        self.assertEqual(desk.say("see 1"), f"5:1:{thrice} 5:1:0")
        self.assertGreater(len(str(thrice)), 60)

    def test_see(self):
        desk = desk_of()
        self.assertEqual(answers(desk, [f"see {number}" for number in range(6)]), [
            "hidden", "3 5:1:0", "none", "hidden", "hidden", "hidden"])

    def test_see_in_other_rings(self):
        desk = desk_of(ring=0)
        self.assertEqual(answers(desk, [f"see {number}" for number in range(6)]), [
            "7", "3 5:1:0", "none", "hidden", "3", "hidden"])
        desk.say("sit 6")
        self.assertEqual(answers(desk, ["see 1", "see 2"]), ["hidden", "hidden"])

    def test_see_tells_the_words_as_they_are(self):
        desk = desk_of()
        answers(desk, ["do aim 0 1 0, set 12, store 0 1, keep 0 0 0"])
        self.assertEqual(desk.say("see 1"), "5:1:0 12")

    def test_segments_that_are_none(self):
        desk = desk_of()
        for number in [6, 7, 10, 999]:
            self.refused(desk, f"see {number}", NoSegment, number)
        self.assertEqual(desk_of("; ".join([TEXT] + ["0.0.0 - 0 [] ()"] * 2)).say("see 7"), "hidden")

    def test_touch(self):
        desk = desk_of()
        desk.say(READY)
        self.assertEqual(desk.say("touch call 0"), "5:1:0r 5:1:0w")
        self.assertEqual(desk.say("touch load 1 0"), "5:1:0r")
        self.assertEqual(desk.say("touch store 1 1"), "5:1:1w")
        self.assertEqual(desk.say("touch load 1 1"), "5:1:1r")      # of the wrong kind
        self.assertEqual(desk.say("touch load 0 0"), "none")        # that may not be read
        self.assertEqual(desk.say("touch set 1"), "none")
        self.assertEqual(desk.say("touch return"), "none")

    def test_touch_is_not_kept(self):
        desk = desk_of()
        desk.say(READY)
        before = all_of(desk)
        self.assertEqual(answers(desk, ["touch call 0", "touch store 1 0", "touch load 0 0", "touch call 0"]), [
            "5:1:0r 5:1:0w", "5:1:0w", "none", "5:1:0r 5:1:0w"])
        self.assertEqual(all_of(desk), before)
        self.assertEqual(answers(desk, ["back", "show"]), ["ok", "0 5:0:0 - - -"])

    def test_touch_of_a_hole(self):
        desk = desk_of()
        self.assertEqual(answers(desk, ["do aim 0 3 0, set 8", "touch call 0", "do call 0", "sit 1", "see 4"]), [
            "done done", "1:4:0w", "done", "ok", "3"])

    def test_touches_that_write_not_just_one_deed(self):
        desk = desk_of()
        for text in ["", " ", "-", "set 1, set 2", "set 1, ", "set", "set 1 ", "x", "set 1,", "load 9 0, load 0 0",
                     "return, return, return", "Set 1"]:
            self.refused(desk, "touch " + text, NoText, text)

    def test_touches_of_faulty_deeds(self):
        desk = desk_of()
        self.refused(desk, "touch load 4 0", NoDeed, ("load", 4, 0))
        self.refused(desk, "touch aim 0 6 0", NoDeed, ("aim", 0, 6, 0))
        self.refused(desk, "touch call -1", NoDeed, ("call", -1))

    def test_table(self):
        desk = desk_of("16; 0.7.7 rwx 0 [] (); 3.3.5 x 0 [] (); 2.4.4 - 0 [] (); 6.6.6 wx 0 [] ()")
        told = "rwx - - w; rx - - w; rx - - w; rx x - w; rx c - w; rx c - w; rx - - wx; rx - - -"
        self.assertEqual(desk.say("table"), told)
        self.assertEqual(answers(desk, ["sit 0", "table"]), ["ok", told])

    def test_aims(self):
        desk = desk_of()
        told = [desk.say(f"sit {ring}") and desk.say("aims") for ring in range(8)]
        self.assertEqual(told, ["3"] * 5 + ["3 5"] * 3)
        self.assertEqual(desk_of("16; 7.7.7 wx 0 [] (aim 0 0 0); 0.0.0 r 0 [] (aim 0 0 0)", 7).say("aims"), "none")


class Rows(Refusals):
    def test_texts_that_are_no_rows(self):
        desk = desk_of()
        desk.say("do set 1")
        for row in [
            "", " ", "x", "ok", "help", "machine", "do", "touch", "sit", "see", "Machine " + TEXT, "DO set 1", "Back", "SHOW",
            "Table", "AIMS", "Sit 1", "SEE 1", " back", "back ", "back 1", "back  ", " show", "show ", "show 1", "table ",
            "table 1", "aims ", "aims 5", " do set 1", " machine " + TEXT, " sit 1", "sit ", "sit  1", "sit 1 ", "sit 01",
            "sit 00", "sit -1", "sit -0", "sit +1", "sit 1000", "sit 0001", "sit a", "sit 1 2", "sit 1.0", "sit 1_0",
            "sit7", "see ", "see  0", "see 0 ", "see 00", "see 01", "see 007", "see -1", "see 1000", "see x", "see 1, 2",
            "see1", "do\tset 1", "machine\n", "sit\t1", "back\n", "shows", "sho", "doset 1", "set 1", "touchset 1", "-",
            "none", "do,set 1", "machine;" + TEXT, "see \u0663", "sit \u00b2", "see 1\n",
        ]:
            self.refused(desk, row, NoRow, row)

    def test_numbers_of_three_figures(self):
        desk = desk_of()
        self.assertEqual(answers(desk, ["sit 0", "see 0"]), ["ok", "7"])
        self.refused(desk, "see 999", NoSegment, 999)
        self.refused(desk, "sit 999", NoRing, 999)
        self.refused(desk, "see 1000", NoRow, "see 1000")
        self.refused(desk, "sit 1000", NoRow, "sit 1000")

    def test_a_text_is_all_behind_the_first_blank(self):
        desk = desk_of()
        self.refused(desk, "do  set 1", NoText, " set 1")
        self.refused(desk, "machine  " + TEXT, NoText, " " + TEXT)
        self.refused(desk, "touch  set 1", NoText, " set 1")
        self.refused(desk, "touch  ", NoText, " ")

    def test_the_order_of_refusals(self):
        desk = desk_of()
        # A text that writes none goes ahead of a faulty deed, wherever it is.
        self.refused(desk, "do load 9 0, set 01", NoText, "load 9 0, set 01")
        self.refused(desk, "do set 1, load 9 0, x", NoText, "set 1, load 9 0, x")
        self.refused(desk, "touch load 9 0, load 0 0", NoText, "load 9 0, load 0 0")
        # No row at all goes ahead of a number that is not there, and of no deed to take back.
        self.refused(desk, "sit 08", NoRow, "sit 08")
        self.refused(desk, "see 08", NoRow, "see 08")
        self.refused(desk, "back 1", NoRow, "back 1")
        # Of faulty deeds the first one.
        self.refused(desk, "do return, load 0 0, call 7, call 8", NoDeed, ("call", 7))

    def test_what_is_refused_changes_nothing(self):
        rows = [
            "", "x", "back ", "sit 8", "sit 08", "sit", "see 6", "see x", "machine", "machine ", "machine 16", "do", "do ",
            "do set 5, set 06", "do set 5, call 4", "do aim 0 6 0", "do store 1 0, aim 1 4 0, aim 1 6 0", "touch -",
            "touch call 4", "touch set 1, set 2", "machine " + TEXT + " ",
        ]
        desk, twin = desk_of(), desk_of()
        for each in (desk, twin):
            answers(each, [READY, "do set 2", "do call 0", "back"])
        for row in rows:
            with self.subTest(row):
                with self.assertRaises(RingError):
                    desk.say(row)
                self.assertEqual(all_of(desk), all_of(twin))
        for left in range(3):
            self.assertEqual(answers(desk, ["back", "show", "see 1"]), answers(twin, ["back", "show", "see 1"]))
        self.refused(desk, "back", NoDeed, None)
        self.assertEqual(all_of(desk), all_of(desk_of()))
        self.refused(desk, "back", NoDeed, None)

    def test_none_of_a_row_with_a_faulty_deed_is_done_or_taken_back(self):
        desk = desk_of()
        self.refused(desk, "do set 1, set 2, load 4 0", NoDeed, ("load", 4, 0))
        self.assertEqual(desk.say("show"), "0 - - - -")
        self.refused(desk, "back", NoDeed, None)
        desk.say("do set 3")
        self.refused(desk, "do set 1, set 2, load 4 0", NoDeed, ("load", 4, 0))
        self.assertEqual(answers(desk, ["show", "back", "show"]), ["3 - - - -", "ok", "0 - - - -"])
        self.refused(desk, "back", NoDeed, None)

    def test_two_desks_have_nothing_in_common(self):
        one, other = Desk(), Desk()
        answers(one, ["machine " + TEXT, "sit 5", READY, "do call 0"])
        self.assertEqual(answers(other, ["show", "see 0", "table", "aims"]), [
            "0 - - - -", "0", "; ".join(["rw"] * 8), "none"])
        self.refused(other, "back", NoDeed, None)
        answers(other, ["do set 1", "do aim 0 0 0, store 0 0"])
        self.assertEqual(answers(one, ["show", "see 1"]), ["4 5:0:0 5:1:0 - -", "4 5:1:0"])
        self.assertEqual(answers(Desk(), ["show", "see 0"]), ["0 - - - -", "0"])
        one.say("back")
        self.assertEqual(answers(other, ["show", "see 0"]), ["1 7:0:0 - - -", "1"])


class Drawn(unittest.TestCase):
    """Desks with machines and deeds drawn by a fixed seed, beside what the other modules tell."""

    def shown(self, stand):
        pointers = ["-" if pointer is None else "%d:%d:%d" % pointer for pointer in stand[2]]
        return " ".join([str(stand[1])] + pointers)

    def word(self, word):
        return ":".join(str(part) for part in word[1:])

    def letters(self, ways):
        return "".join(letter for letter, may in zip("rwxc", ways) if may) or "-"

    def assert_at(self, desk, machine, stand):
        """The desk has just this stand, as far as its hand can see."""
        self.assertEqual(desk.say("show"), self.shown(stand))
        for number, way in enumerate(allowed(machine, stand[0])):
            told = " ".join(self.word(word) for word in stand[3][number]) if way[0] else "hidden"
            self.assertEqual(desk.say(f"see {number}"), told)

    def test_done_and_taken_back(self):
        for draw, machine, ring, deeds in drawn(range(60), True):
            desk = desk_of(show_machine(machine), ring)
            stands = [first(machine, ring)]
            for deed in deeds:
                stand, told = done(machine, stands[-1], deed)
                touches = trace(machine, stands[-1], deed)[1]
                touched = " ".join("%d:%d:%d%s" % touch for touch in touches) or "none"
                self.assertEqual(desk.say("touch " + show_deeds([deed])), touched)
                self.assertEqual(desk.say("do " + show_deeds([deed])), told[-1])
                stands.append(stand)
                self.assert_at(desk, machine, stand)
            while len(stands) > 1:
                stands.pop()
                self.assertEqual(desk.say("back"), "ok")
                self.assert_at(desk, machine, stands[-1])
            with self.assertRaises(NoDeed):
                desk.say("back")

    def test_a_row_of_deeds_at_once(self):
        for draw, machine, ring, deeds in drawn(range(60, 120), True):
            desk = desk_of(show_machine(machine), ring)
            stand, told = done_all(machine, first(machine, ring), deeds)
            self.assertEqual(desk.say("do " + show_deeds(deeds)), " ".join(each[-1] for each in told))
            self.assert_at(desk, machine, stand)
            aims = " ".join(map(str, aiming(machine, ring))) or "none"
            self.assertEqual(desk.say("aims"), aims)
            rows = [" ".join(map(self.letters, allowed(machine, each))) for each in range(8)]
            self.assertEqual(desk.say("table"), "; ".join(rows))
            for deed in deeds:
                desk.say("back")
            self.assert_at(desk, machine, first(machine, ring))


if __name__ == "__main__":
    unittest.main()
