"""Points 11 and 12: blocks, their symbols, doubled and times a symbol."""

import unittest

from spareplank.blocks import Blocks
from spareplank.errors import NoShape
from spareplank.field import Field
from tests.reckoning import GOOD_RULES, block_of, digits_of, doubled, product, spread

MANY = (1, 2, 3, 7, 8, 15, 16)


def all_blocks():
    """Blocks of each width, with 1 to 16 symbols."""
    return [Blocks(Field(rule), many) for rule in GOOD_RULES for many in MANY]


def samples(blocks):
    """Some blocks, among them each single symbol last and all of them."""
    base = blocks.field.last + 1
    single = [(base - 1) * base ** place for place in range(blocks.many)]
    return spread(blocks.limit, 12) + single


def factors_of(field):
    """The factors at the edges and some others."""
    return [0, 1, 2, 3, field.last // 2 + 1, field.last - 1, field.last]


class ShapeOfBlocksTest(unittest.TestCase):
    """Point 11: how many symbols, limit, good."""

    def test_values(self):
        for rule in GOOD_RULES:
            field = Field(rule)
            for many in range(1, 17):
                blocks = Blocks(field, many)
                self.assertIs(blocks.field, field)
                self.assertEqual((blocks.many, blocks.limit), (many, (field.last + 1) ** many))
                self.assertTrue(type(blocks.many) is int and type(blocks.limit) is int)

    def test_limits_by_hand(self):
        self.assertEqual(Blocks(Field(19), 1).limit, 16)
        self.assertEqual(Blocks(Field(19), 2).limit, 256)
        self.assertEqual(Blocks(Field(285), 16).limit, 340282366920938463463374607431768211456)

    def test_how_many_refused(self):
        for many in (0, 17, 18, 32, -1, -2, -16, -(10 ** 29), 10 ** 29, 10 ** 30 - 1):
            for rule in GOOD_RULES:
                with self.subTest(rule=rule, many=many):
                    with self.assertRaises(NoShape):
                        Blocks(Field(rule), many)

    def test_good(self):
        for blocks in all_blocks():
            with self.subTest(rule=blocks.field.rule, many=blocks.many):
                for block in (0, 1, blocks.field.last, blocks.limit // 2, blocks.limit - 1):
                    self.assertIs(blocks.good(block), True)
                for number in (-1, -2, -blocks.limit, -(10 ** 39), blocks.limit, blocks.limit + 1, 2 * blocks.limit,
                               10 ** 39, 10 ** 40 - 1):
                    self.assertIs(blocks.good(number), False)


class SymbolsTest(unittest.TestCase):
    """Points 11 and 2: blocks and their symbols."""

    def test_there_and_back(self):
        for blocks in all_blocks():
            base = blocks.field.last + 1
            for block in samples(blocks):
                with self.subTest(rule=blocks.field.rule, many=blocks.many, block=block):
                    symbols = blocks.symbols(block)
                    self.assertIs(type(symbols), list)
                    self.assertEqual(symbols, digits_of(block, base, blocks.many))
                    self.assertEqual(blocks.joined(symbols), block)

    def test_every_block_of_two_small_symbols(self):
        blocks = Blocks(Field(25), 2)
        for low in range(16):
            for high in range(16):
                self.assertEqual(blocks.joined([low, high]), low + 16 * high)
                self.assertEqual(blocks.symbols(low + 16 * high), [low, high])

    def test_lowest_first(self):
        blocks = Blocks(Field(19), 4)
        self.assertEqual(blocks.symbols(0x1234), [4, 3, 2, 1])
        self.assertEqual(blocks.joined([4, 3, 2, 1]), 0x1234)
        self.assertEqual(blocks.symbols(5), [5, 0, 0, 0])
        blocks = Blocks(Field(37), 2)
        self.assertEqual(blocks.symbols(100), [4, 3])

    def test_lists_handed_in_stay(self):
        blocks = Blocks(Field(19), 3)
        some = [1, 2, 3]
        blocks.joined(some)
        self.assertEqual(some, [1, 2, 3])
        factors, several = [1, 15], [0x123, 0xfff]
        blocks.summed(factors, several)
        self.assertEqual((factors, several), ([1, 15], [0x123, 0xfff]))

    def test_lists_given_are_the_askers_own(self):
        blocks = Blocks(Field(19), 3)
        symbols = blocks.symbols(0x123)
        self.assertIsNot(blocks.symbols(0x123), symbols)
        symbols[0] = 9
        symbols.append(4)
        self.assertEqual(blocks.symbols(0x123), [3, 2, 1])
        some = [3, 2, 1]
        block = blocks.joined(some)
        some[0] = 7
        self.assertEqual((block, blocks.joined([3, 2, 1])), (0x123, 0x123))

    def test_sum_is_symbol_by_symbol(self):
        for blocks in all_blocks():
            some = samples(blocks)
            for one, other in zip(some, reversed(some)):
                pairs = zip(blocks.symbols(one), blocks.symbols(other))
                self.assertEqual(blocks.symbols(one ^ other), [left ^ right for left, right in pairs])


class ScaledTest(unittest.TestCase):
    """Point 12: a block doubled, and times a symbol."""

    def test_doubled(self):
        for blocks in all_blocks():
            rule, base = blocks.field.rule, blocks.field.last + 1
            for block in samples(blocks):
                with self.subTest(rule=rule, many=blocks.many, block=block):
                    due = [doubled(rule, symbol) for symbol in digits_of(block, base, blocks.many)]
                    self.assertEqual(blocks.double(block), block_of(due, base))
                    self.assertEqual(blocks.double(block), blocks.scaled(2, block))

    def test_times_a_symbol(self):
        for blocks in all_blocks():
            rule, base = blocks.field.rule, blocks.field.last + 1
            for block in samples(blocks):
                for factor in factors_of(blocks.field):
                    due = [product(rule, factor, symbol) for symbol in digits_of(block, base, blocks.many)]
                    with self.subTest(rule=rule, many=blocks.many, block=block, factor=factor):
                        self.assertEqual(blocks.scaled(factor, block), block_of(due, base))

    def test_times_nought_and_one(self):
        for blocks in all_blocks():
            for block in samples(blocks):
                self.assertEqual(blocks.scaled(0, block), 0)
                self.assertEqual(blocks.scaled(1, block), block)

    def test_by_hand(self):
        blocks = Blocks(Field(19), 4)
        self.assertEqual(blocks.double(0x1789), 0x2e31)
        self.assertEqual(blocks.scaled(9, 0x0178), block_of([product(19, 9, one) for one in (8, 7, 1, 0)], 16))
        self.assertEqual(blocks.scaled(8, 0x8001), 0xc008)

    def test_side_by_side(self):
        field = Field(37)
        several = [Blocks(field, many) for many in MANY]
        for block in range(32):
            for blocks in several:
                self.assertEqual(blocks.double(block), doubled(37, block))
                self.assertEqual(blocks.scaled(21, block), product(37, 21, block))
                self.assertEqual(blocks.symbols(block), [block] + [0] * (blocks.many - 1))
        self.assertEqual([blocks.limit for blocks in several], [32 ** many for many in MANY])


class SummedTest(unittest.TestCase):
    """Point 12 and the interface: summed."""

    def test_of_no_blocks(self):
        for blocks in all_blocks():
            self.assertEqual(blocks.summed([], []), 0)

    def test_of_one_block(self):
        for blocks in all_blocks():
            for block in samples(blocks):
                for factor in factors_of(blocks.field):
                    self.assertEqual(blocks.summed([factor], [block]), blocks.scaled(factor, block))

    def test_of_several(self):
        for blocks in all_blocks():
            rule, base = blocks.field.rule, blocks.field.last + 1
            some = samples(blocks)
            factors = (factors_of(blocks.field) * 4)[:len(some)]
            for count in (2, 3, 7, len(some)):
                due = 0
                for factor, block in zip(factors[:count], some[:count]):
                    symbols = digits_of(block, base, blocks.many)
                    due ^= block_of([product(rule, factor, symbol) for symbol in symbols], base)
                with self.subTest(rule=rule, many=blocks.many, count=count):
                    self.assertEqual(blocks.summed(factors[:count], some[:count]), due)

    def test_by_hand(self):
        blocks = Blocks(Field(19), 2)
        self.assertEqual(blocks.summed([1, 1], [0x5a, 0x5a]), 0)
        self.assertEqual(blocks.summed([1, 2, 0, 1], [0x11, 0x98, 0xff, 0x40]), 0x11 ^ 0x13 ^ 0x40)
        self.assertEqual(blocks.summed([15, 15], [0x01, 0x10]), 0xff)


if __name__ == "__main__":
    unittest.main()
