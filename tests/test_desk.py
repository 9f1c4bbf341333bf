"""Points 65 to 69: the desk's lines."""

import unittest

from spareplank.desk import Desk
from spareplank.errors import Gone, NoCode, NoField, NoLine, NoPlace, NoPower, NoShape, Standing, WrongPlank

# A line of each kind that a desk with a row by MAKE takes.
MAKE = "make 19 2 3 2 4 2 1"
LINES = ["get 0", "get 11", "put 0 a5", "put 0 a5 5a 00", "up", "step 1", "walk", "mend 0", "paper 3", "peek 4 3",
         "kind 0", "lose 2", "spare 2", "slow 1 9", "spoil 0 0", "lie 0 0 ff", "supply", "supply 0", "supply 999999999"]


def made(line=MAKE):
    desk = Desk()
    desk.say(line)
    return desk


class DeskCase(unittest.TestCase):

    def refused(self, kind, fields, desk, line):
        with self.assertRaises(kind, msg=line) as caught:
            desk.say(line)
        self.assertEqual(tuple(vars(caught.exception).values()), fields)

    def answers(self, desk, pairs):
        for line, due in pairs:
            told = desk.say(line)
            self.assertEqual((line, type(told), told), (line, str, due))

    def view(self, desk, planks=5, stripes=4):
        """What a desk tells of its planks."""
        return [[desk.say(f"kind {plank}")] + [desk.say(f"peek {plank} {stripe}") for stripe in range(stripes)]
                for plank in range(planks)]


class LinesTest(DeskCase):
    """Point 65."""

    def test_no_line_ahead_of_the_first_make(self):
        desk = Desk()
        for line in LINES + ["", "nonsense"]:
            self.refused(NoLine, (), desk, line)
        self.refused(NoField, (18, 0), desk, "make 18 2 3 2 4 2 1")
        for line in LINES:
            self.refused(NoLine, (), desk, line)
        self.assertEqual(desk.say(MAKE), "ok")
        self.assertEqual(desk.say("get 0"), "00")

    def test_what_is_no_text(self):
        for desk in (Desk(), made()):
            for line in (None, 0, 7, True, [], ["up"], ("up",), {}, b"up", ["get", "0"], Desk()):
                self.refused(NoLine, (), desk, line)

    def test_blanks(self):
        desk = made()
        kept = self.view(desk)
        for line in LINES + [MAKE]:
            for bad in (" " + line, line + " ", "\t" + line, line + "\n", line + "\t", line.replace(" ", "  ", 1) + " ",
                        "\n" + line):
                self.refused(NoLine, (), desk, bad)
            if " " in line:
                for bad in (line.replace(" ", "  ", 1), line.replace(" ", "\t", 1), line.replace(" ", "", 1),
                            line.replace(" ", "\u00a0", 1), line.replace(" ", "\n", 1), line.replace(" ", ",", 1)):
                    self.refused(NoLine, (), desk, bad)
        self.assertEqual(self.view(desk), kept)

    def test_great_letters_and_other_words(self):
        desk = made()
        for line in LINES + [MAKE]:
            self.refused(NoLine, (), desk, line.upper() if line.upper() != line else line)
            self.refused(NoLine, (), desk, line[0].upper() + line[1:])
        for line in ("", " ", "gets 0", "ge 0", "undo", "help", "0", "put", "standing", "note 0 0", "strike 0", "lay 0 0 00",
                     "look 0 0", "there 0 0", "run 1 2", "events", "ready", "get:0", "walk;", "\u00fcp"):
            self.refused(NoLine, (), desk, line)

    def test_words_left_out_or_too_many(self):
        desk = made()
        kept = self.view(desk)
        for line in LINES + [MAKE]:
            words = line.split(" ")
            if words[0] not in ("supply", "put"):
                self.refused(NoLine, (), desk, line + " 0")
                self.refused(NoLine, (), desk, line + " 00")
                if len(words) > 1:
                    self.refused(NoLine, (), desk, " ".join(words[:-1]))
        for line in ("put", "put 0", "supply 0 0", "supply 1 2 3", "put a5", "up 0", "walk 0"):
            self.refused(NoLine, (), desk, line)
        self.assertEqual(self.view(desk), kept)

    def test_numbers_not_written_plainly(self):
        desk = made()
        kept = self.view(desk)
        bad_numbers = ["", "00", "01", "007", "-1", "+1", "-0", "1.0", "1e3", "0x1", "1_0", "1234567890", "0000000000",
                       "a", "\u0661", "\u00b2", "1\n", "\uff11", "10000000000000000000", "--1", "1-", "True", "None"]
        for line in LINES + [MAKE]:
            words = line.split(" ")
            blocks = {"put": len(words) - 2, "lie": 1}.get(words[0], 0)
            last = len(words) - blocks - (words[0] == "make")
            for at in range(1, last):
                for bad in bad_numbers:
                    self.refused(NoLine, (), desk, " ".join(words[:at] + [bad] + words[at + 1:]))
        for bad in bad_numbers:
            if bad != "-1":
                self.refused(NoLine, (), desk, "make 19 2 3 2 4 2 " + bad)
        for bad in ("-01", "-", "- 1", "-1234567890", "-00", "\u22121"):
            self.refused(NoLine, (), desk, "make 19 2 3 2 4 2 " + bad)
        self.assertEqual(self.view(desk), kept)

    def test_blocks_not_written_as_they_are(self):
        desk = made()
        for bad in ("", "5", "005", "0x5", "A5", "g0", "-1", "+5", " 5", "5\u0661", "none"):
            for line in ("put 0 " + bad, "put 0 00 " + bad, "put 0 " + bad + " 00", "lie 0 0 " + bad, "put 99 " + bad,
                         "lie 9 9 " + bad):
                self.refused(NoLine, (), desk, line)
        desk = made("make 37 1 3 1 4 2 1")
        self.assertEqual(desk.say("put 0 1f"), "ok 1")
        self.refused(NoLine, (), desk, "put 0 20")
        self.refused(NoLine, (), desk, "lie 0 0 ff")

    def test_no_line_goes_ahead_of_all_other_refusals(self):
        desk = made()
        desk.say("supply 0")
        self.refused(NoPower, (), desk, "put 0 a5")
        for line in ("get 099", "put 99 5", "put 0 a5 5", "mend 04", "paper -1", "peek 9 09", "step +9", "lie 9 9 5",
                     "make 18 2 3 2 4 2 -0", "make 18 99 3 2 4 2 01"):
            self.refused(NoLine, (), desk, line)

    def test_great_numbers_are_lines(self):
        desk = made()
        self.refused(NoPlace, (999999999,), desk, "get 999999999")
        self.refused(NoPlace, (999999999,), desk, "put 999999999 00")
        self.refused(NoPlace, (100000000,), desk, "kind 100000000")
        self.assertEqual(desk.say("supply 999999999"), "ok")
        self.assertEqual(desk.say("make 19 2 3 2 4 2 -999999999"), "ok")
        self.assertEqual(desk.say("make 19 2 3 2 4 2 999999999"), "ok")


class MakeTest(DeskCase):
    """Point 66."""

    def test_order_of_the_refusals(self):
        for is_made in (False, True):
            desk, kept = Desk(), None
            if is_made:
                desk.say(MAKE)
                desk.say("put 0 a5 5a")
                kept = self.view(desk)
            for line, kind, fields in (
                    ("make 18 0 0 0 0 0 0", NoField, (18, 0)), ("make 17 99 9 9 99 99 0", NoField, (17, 4)),
                    ("make 999999999 2 3 2 4 2 1", NoField, (999999999, 0)), ("make 0 2 3 2 4 2 1", NoField, (0, 0)),
                    ("make 19 0 0 0 0 0 0", NoShape, ()), ("make 19 17 9 9 99 99 0", NoShape, ()),
                    ("make 19 999999999 3 2 4 2 1", NoShape, ()),
                    ("make 19 16 0 1 0 0 0", NoCode, ()), ("make 19 1 3 0 0 0 0", NoCode, ()),
                    ("make 19 1 3 3 99 99 0", NoCode, ()), ("make 19 1 8 1 4 2 0", NoCode, ()),
                    ("make 19 1 7 2 4 2 0", NoCode, ()), ("make 19 1 0 2 4 2 0", NoCode, ()),
                    ("make 19 1 999999999 1 4 2 0", NoCode, ()), ("make 19 1 1 999999999 4 2 0", NoCode, ()),
                    ("make 19 2 3 2 0 2 1", NoShape, ()), ("make 19 2 3 2 33 2 1", NoShape, ()),
                    ("make 19 2 3 2 4 0 1", NoShape, ()), ("make 19 2 3 2 4 9 1", NoShape, ()),
                    ("make 19 2 3 2 999999999 999999999 1", NoShape, ())):
                self.refused(kind, fields, desk, line)
            if kept is None:
                self.refused(NoLine, (), desk, "get 0")
            else:
                self.assertEqual(self.view(desk), kept)
                self.assertEqual(desk.say("get 1"), "5a")

    def test_at_the_bounds(self):
        for line in ("make 19 1 1 1 1 1 0", "make 285 16 7 1 32 8 1", "make 285 16 6 2 32 8 -1", "make 37 3 1 2 1 8 5"):
            desk = made(line)
            stripes, data = int(line.split()[5]), int(line.split()[3])
            self.assertEqual(set(desk.say(f"get {data * stripes - 1}")), {"0"})
            self.refused(NoPlace, (data * stripes,), desk, f"get {data * stripes}")

    def test_what_was_before_is_forgotten(self):
        desk = made()
        self.answers(desk, [("put 0 a5 5a 11", "ok 1"), ("lose 0", "ok"), ("supply 0", "ok")])
        self.refused(NoPower, (), desk, "put 0 00")
        self.answers(desk, [(MAKE, "ok"), ("kind 0", "whole"), ("get 0", "00"), ("put 0 77", "ok 1"), ("up", "none")])

    def test_plain_weights_and_even_turns(self):
        for step in (-3, -1, 0, 1, 2, 7):
            desk = made(f"make 19 2 3 2 4 2 {step}")
            for stripe in range(4):
                desk.say(f"put {3 * stripe} 01 02 04")
                planks = [(role + step * stripe) % 5 for role in range(5)]
                # 1 + 2 + 4, and 1 * 1 + 2 * 2 + 3 * 4 in the field by the rule 19.
                self.assertEqual([desk.say(f"peek {plank} {stripe}") for plank in planks], ["01", "02", "04", "07", "09"])


class AnswersTest(DeskCase):
    """Points 67 and 68."""

    def test_getting_and_putting(self):
        desk = made()
        self.answers(desk, [("get 0", "00"), ("put 0 a5", "ok 1"), ("get 0", "a5"), ("put 2 01 02", "ok 2"),
                            ("put 0 00 01 02 03 04 05 06 07 08 09 0a 0b", "ok 4"), ("get 11", "0b"), ("get 3", "03")])
        self.refused(NoPlace, (12,), desk, "get 12")
        self.refused(NoPlace, (12,), desk, "put 12 00")
        self.refused(NoPlace, (11,), desk, "put 11 00 00")

    def test_blocks_that_are_gone(self):
        desk = made("make 19 2 3 1 4 2 0")
        self.answers(desk, [("put 0 01 02 03", "ok 1"), ("lose 1", "ok"), ("get 1", "02"), ("spoil 3 0", "ok")])
        self.refused(Gone, (0, 1), desk, "get 1")
        # The sum is there though it does not read: the new block lies in it from now on.
        self.answers(desk, [("get 0", "01"), ("get 2", "03"), ("put 1 05", "ok 1"), ("get 1", "05"), ("lose 3", "ok")])
        self.refused(Gone, (0, 1), desk, "get 1")
        self.refused(Gone, (0, 1), desk, "put 1 05")
        self.refused(Gone, (0, 0), desk, "put 0 09 08 07")
        self.answers(desk, [("put 0 09", "ok 1"), ("get 0", "09"), ("get 2", "03")])

    def test_coming_up(self):
        desk = made("make 19 2 3 1 4 3 0")
        self.answers(desk, [("up", "none"), ("supply 3", "ok")])
        self.refused(NoPower, (), desk, "put 0 01 02 03 04 05 06 07 08 09")
        self.refused(NoPower, (), desk, "up")
        self.refused(NoPower, (), desk, "get 0")
        self.answers(desk, [("supply", "ok")])
        self.refused(Standing, (0,), desk, "get 0")
        self.answers(desk, [("lose 0", "ok"), ("up", "0/1/2 1/1/2/3 2/1/2/3"), ("up", "none"), ("get 0", "01"),
                            ("get 8", "09"), ("get 9", "00")])

    def test_coming_up_with_nothing_to_lay(self):
        desk = made("make 19 2 3 1 4 3 0")
        # One note and all its lays, but not the strike.
        desk.say("supply 5")
        self.refused(NoPower, (), desk, "put 9 01 02 03")
        self.answers(desk, [("supply", "ok"), ("up", "3"), ("get 9", "01")])

    def test_spares(self):
        desk = made("make 19 2 3 1 4 3 0")
        self.answers(desk, [("put 0 01 02 03 04 05 06", "ok 2"), ("lose 1", "ok"), ("kind 1", "lost"), ("spare 1", "ok"),
                            ("kind 1", "spare"), ("peek 1 0", "none"), ("step 1", "reckoned"), ("peek 1 0", "02"),
                            ("spoil 0 1", "ok"), ("step 1", "none"), ("peek 1 1", "none"), ("step 1", "reckoned"),
                            ("kind 1", "spare"), ("step 1", "reckoned"), ("kind 1", "whole")])
        self.refused(WrongPlank, (1,), desk, "step 1")
        self.refused(WrongPlank, (1,), desk, "spare 1")
        self.refused(NoPlace, (4,), desk, "step 4")

    def test_deeds(self):
        desk = made("make 19 2 3 1 4 3 0")
        self.answers(desk, [("slow 0 9", "ok"), ("kind 0", "slow"), ("slow 0 2", "ok"), ("spoil 0 3", "ok"),
                            ("peek 0 3", "none"), ("lie 0 3 ff", "ok"), ("peek 0 3", "ff"), ("lose 0", "ok"),
                            ("peek 0 3", "none"), ("supply 7", "ok"), ("supply 0", "ok"), ("supply", "ok"),
                            ("put 0 01", "ok 1")])
        self.refused(WrongPlank, (0,), desk, "lose 0")
        self.refused(WrongPlank, (0,), desk, "spoil 0 0")
        self.refused(WrongPlank, (0,), desk, "lie 0 0 00")
        self.refused(WrongPlank, (0,), desk, "slow 0 5")
        self.refused(NoShape, (), desk, "slow 0 1")
        self.refused(NoShape, (), desk, "slow 1 10")
        self.refused(NoPlace, (4,), desk, "slow 4 1")
        for line in ("lose 4", "spare 4", "spoil 4 9", "lie 4 9 00", "peek 4 9", "kind 4"):
            self.refused(NoPlace, (4,), desk, line)
        for line in ("spoil 0 4", "lie 0 4 00", "peek 0 4", "mend 4", "paper 4"):
            self.refused(NoPlace, (4,), desk, line)

    def test_walking_and_mending(self):
        desk = made("make 19 2 3 2 4 3 0")
        self.answers(desk, [("put 0 01 02 03 04 05 06", "ok 2"), ("walk", "right 2; right 2; right 2; right 2"),
                            ("lie 1 0 ff", "ok"), ("spoil 2 1", "ok"), ("spoil 4 1", "ok"), ("spoil 0 2", "ok"),
                            ("lie 3 2 0f", "ok"), ("walk", "lies 1 02; right 0; open; right 2"),
                            ("mend 0", "1"), ("mend 0", "none"), ("mend 1", "2 4"), ("mend 2", "open"),
                            ("mend 3", "none"), ("get 1", "02"), ("get 5", "06"), ("spoil 3 2", "ok"), ("mend 2", "0 3"),
                            ("walk", "right 2; right 2; right 2; right 2")])
        desk.say("supply 1")
        desk.say("spoil 0 0")
        self.refused(NoPower, (), desk, "mend 0")
        self.refused(NoPower, (), desk, "walk")
        desk.say("supply")
        self.refused(Standing, (0,), desk, "walk")
        self.refused(Standing, (0,), desk, "mend 0")
        self.refused(Standing, (0,), desk, "paper 0")
        self.refused(Standing, (0,), desk, "step 0")
        self.answers(desk, [("up", "0/0"), ("walk", "right 2; right 2; right 2; right 2")])

    def test_papers(self):
        desk = made("make 19 2 3 1 4 3 0")
        self.answers(desk, [("put 0 01 02 03", "ok 1"), ("paper 0", "0 read 01; 1 read 02; 2 read 03; 3 read 00"),
                            ("lose 1", "ok"), ("paper 0", "0 read 01; 1 reckoned 02 by 1; 2 read 03; 3 read 00")])
        desk.say("spoil 3 0")
        texts = desk.say("paper 0").split("; ")
        self.assertEqual([text.split(" ")[:2] for text in texts],
                         [["0", "read"], ["1", "free"], ["2", "read"], ["3", "free"]])

    def test_the_width_of_blocks(self):
        for rule, many, figures in ((19, 1, 1), (37, 3, 4), (285, 16, 32)):
            desk = made(f"make {rule} {many} 2 1 2 1 1")
            block = "1".rjust(figures, "0")
            self.answers(desk, [("get 0", "0" * figures), (f"put 3 {block}", "ok 1"), ("get 3", block)])


class ApartTest(DeskCase):
    """Point 69."""

    def test_two_desks_have_nothing_in_common(self):
        one, other = made(), made()
        kept = self.view(other)
        for line in ("put 0 a5 5a 11 22", "lose 0", "spare 0", "step 0", "slow 1 3", "spoil 2 1", "lie 3 1 77", "supply 0"):
            one.say(line)
        self.refused(NoPower, (), one, "put 0 00")
        self.assertEqual(self.view(other), kept)
        self.answers(other, [("put 0 01", "ok 1"), ("get 0", "01")])
        third = Desk()
        self.refused(NoLine, (), third, "get 0")

    def test_what_is_refused_changes_nothing(self):
        desk = made("make 19 2 3 1 4 2 0")
        for line in ("put 0 01 02 03 04 05 06", "lose 1", "slow 2 4", "spoil 0 2"):
            desk.say(line)
        kept = self.view(desk, 4)
        for line, kind in (("get 12", NoPlace), ("put 12 00", NoPlace), ("put 6 00 00 00 00 00 00 00", NoPlace),
                           ("get 7", Gone), ("put 6 01", Gone), ("put 3 01 02 03 04", Gone), ("lose 1", WrongPlank),
                           ("spare 0", WrongPlank), ("slow 1 3", WrongPlank), ("slow 0 1", NoShape), ("step 0", WrongPlank),
                           ("spoil 1 0", WrongPlank), ("lie 1 0 00", WrongPlank), ("mend 9", NoPlace), ("up 1", NoLine),
                           ("make 20 1 1 1 1 1 1", NoField)):
            with self.assertRaises(kind):
                desk.say(line)
            self.assertEqual(self.view(desk, 4), kept, line)

    def test_what_was_written_before_power_went_stays(self):
        desk = made("make 19 2 3 1 4 2 0")
        desk.say("supply 2")
        self.refused(NoPower, (), desk, "put 0 01 02 03")
        self.assertEqual(self.view(desk, 4, 1), [["whole", "01"], ["whole", "00"], ["whole", "00"], ["whole", "00"]])
        self.answers(desk, [("supply", "ok"), ("up", "0/1/2"), ("get 2", "03")])


if __name__ == "__main__":
    unittest.main()
