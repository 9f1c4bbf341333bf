"""Points 63 and 64: blocks as texts, and the paper of a stripe."""

import random
import unittest

from spareplank.blocks import Blocks
from spareplank.errors import NoLine
from spareplank.field import Field
from spareplank.papers import paper_of, read_block, shown_block
from spareplank.rows import Row
from spareplank.racks import Rack
from spareplank.shapes import Shape, even_turns
from tests.reckoning import (GOOD_RULES, WEIGHTS, befall, blocks_of, code_of, fixed, lines_of, make_of, makes_by,
                             product, row_of, spread, state_of)

ONE = [[1, 1, 1]]
TWO = [[1, 1, 1], [1, 2, 3]]


class BlocksAsTextsTest(unittest.TestCase):
    """Point 63."""

    def refused(self, blocks, text):
        with self.assertRaises(NoLine):
            read_block(blocks, text)

    def test_there_and_back_for_every_width_and_number_of_symbols(self):
        for rule in GOOD_RULES:
            for many in range(1, 17):
                blocks = Blocks(Field(rule), many)
                figures = -(-blocks.field.width * many // 4)
                for block in spread(blocks.limit, 12):
                    text = shown_block(blocks, block)
                    self.assertIs(type(text), str)
                    self.assertEqual(text, f"{block:x}".rjust(figures, "0"))
                    self.assertEqual(read_block(blocks, text), block)

    def test_how_many_figures(self):
        for rule, many, due in ((19, 1, 1), (19, 2, 2), (37, 1, 2), (37, 2, 3), (37, 3, 4), (37, 4, 5), (131, 1, 2),
                                (131, 3, 6), (285, 1, 2), (285, 16, 32), (67, 2, 3)):
            self.assertEqual(shown_block(Blocks(Field(rule), many), 0), "0" * due)

    def test_other_lengths(self):
        for rule in GOOD_RULES:
            for many in (1, 2, 5, 16):
                blocks = Blocks(Field(rule), many)
                figures = len(shown_block(blocks, 0))
                for length in range(40):
                    if length != figures:
                        self.refused(blocks, "0" * length)
                self.refused(blocks, "0" * 300)

    def test_other_signs(self):
        blocks = Blocks(Field(19), 4)
        self.assertEqual(read_block(blocks, "0abf"), 0x0abf)
        for text in ("0ABF", "0abF", "000g", "0x12", "+123", "-123", " 123", "123 ", "1_23", "12.3", "\t123", "12\n3",
                     "\u0661\u0662\u0663\u0664", "\u00b2123", "123\uff11", "\U0001d7d8123", "12 3"):
            self.refused(blocks, text)

    def test_what_writes_no_block(self):
        for rule in (37, 67, 131):
            for many in range(1, 17):
                blocks = Blocks(Field(rule), many)
                figures = len(shown_block(blocks, 0))
                self.assertEqual(read_block(blocks, f"{blocks.limit - 1:x}".rjust(figures, "0")), blocks.limit - 1)
                if 16 ** figures > blocks.limit:
                    self.refused(blocks, f"{blocks.limit:x}".rjust(figures, "0"))
                    self.refused(blocks, "f" * figures)


class PaperOfAStripeTest(unittest.TestCase):
    """Point 64. Its refusals are tested with those of the mending."""

    def check_paper(self, row, weights, stripe, make):
        kept, before = state_of(row.rack), len(row.rack.events())
        texts = paper_of(row, stripe)
        looks = [("look", plank, stripe) for plank in range(row.rack.planks) if row.rack.there(plank, stripe)]
        self.assertEqual((state_of(row.rack), row.rack.events()[before:]), (kept, looks))
        self.assertEqual((type(texts), len(texts)), (list, row.rack.planks))
        seen = blocks_of(row, stripe)
        known = [block is not None for block in seen]
        words = []
        for plank, text in enumerate(texts):
            role = row.shape.role_of(stripe, plank)
            parts = text.split(" ")
            words.append(parts[1])
            self.assertEqual(parts[0], str(plank))
            if known[role]:
                self.assertEqual(parts[1:], ["read", f"{seen[role]:02x}"])
            elif fixed(19, lines_of(weights), known, role):
                self.assertEqual(parts[1:4], ["reckoned", f"{make[role]:02x}", "by"])
                self.check_by(weights, known, role, parts[4:])
            else:
                self.assertEqual((parts[1], len(parts), parts[2] != parts[3]), ("free", 4, True))
                self.assertTrue(all(0 <= int(part, 16) < 256 and len(part) == 2 for part in parts[2:]))
        return words

    def check_by(self, weights, known, role, symbols):
        """Whether the symbols are written plainly and are a by of the role."""
        self.assertEqual(len(symbols), len(weights))
        by = [int(symbol) for symbol in symbols]
        self.assertEqual([str(symbol) for symbol in by], symbols)
        total = [0] * len(known)
        for factor, line in zip(by, lines_of(weights)):
            total = [one ^ product(19, factor, symbol) for one, symbol in zip(total, line)]
        for other, is_known in enumerate(known):
            if not is_known:
                self.assertEqual(total[other], int(other == role))

    def test_drawn_rows(self):
        source = random.Random(64)
        words = []
        for weights in WEIGHTS:
            for number in range(8):
                row = row_of(weights, 3, 2, source.randint(-2, 2))
                truth = [source.randrange(256) for _ in range(row.shape.size)]
                row.put(0, truth)
                for _ in range(number):
                    befall(source, row, number % 4)
                for stripe in range(3):
                    words.extend(self.check_paper(row, weights, stripe, makes_by(weights, truth)[stripe]))
        self.assertTrue(all(words.count(word) > 30 for word in ("read", "reckoned", "free")))

    def test_by_hand(self):
        row = row_of(ONE, 2, 1, 1)
        row.put(3, [0x12, 0x34, 0xff])
        row.rack.lose(2)
        self.assertEqual(paper_of(row, 1), ["0 read d9", "1 read 12", "2 reckoned 34 by 1", "3 read ff"])
        row = row_of(TWO, 1, 1, 0)
        row.put(0, [0x12, 0x34, 0x56])
        row.rack.spoil(3, 0)
        row.rack.spoil(4, 0)
        make = make_of(19, 2, TWO, [0x12, 0x34, 0x56])
        self.assertEqual(paper_of(row, 0), ["0 read 12", "1 read 34", "2 read 56", f"3 reckoned {make[3]:02x} by 1 0",
                                            f"4 reckoned {make[4]:02x} by 0 1"])

    def test_great_blocks_and_symbols(self):
        code = code_of([[1] * 6, [1, 2, 3, 4, 5, 6]], 285, 16)
        row = Row(code, Shape(6, 8, 1, even_turns(8, 0)), Rack(8, 1, 1))
        row.put(0, [2 ** 128 - 1, 1, 2, 3, 4, 5])
        row.rack.lose(0)
        row.rack.lose(1)
        texts = paper_of(row, 0)
        self.assertTrue(texts[0].startswith("0 reckoned " + "f" * 32 + " by "))
        self.assertTrue(texts[1].startswith("1 reckoned " + "0" * 31 + "1 by "))
        self.assertEqual([len(text.split(" ")) for text in texts], [6, 6] + [3] * 6)

    def test_of_a_stripe_in_which_a_block_lies(self):
        row = row_of(TWO, 1, 1, 0)
        row.rack.lie(0, 0, 99)
        row.rack.spoil(1, 0)
        words = [text.split(" ")[:2] for text in paper_of(row, 0)]
        self.assertEqual(words, [["0", "read"], ["1", "reckoned"], ["2", "read"], ["3", "read"], ["4", "read"]])

    def test_lists_given_are_new(self):
        row = row_of(ONE, 2, 1, 1)
        paper_of(row, 0).clear()
        self.assertEqual(paper_of(row, 0), ["0 read 00", "1 read 00", "2 read 00", "3 read 00"])


if __name__ == "__main__":
    unittest.main()
