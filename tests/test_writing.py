"""Points 40 to 43: what is to be laid for new blocks."""

import itertools
import random
import unittest

from spareplank.asking import Asking
from spareplank.lines import plain_weights
from spareplank.writing import new_blocks
from tests.reckoning import (WEIGHTS, Stripe, all_fixed, code_of, drawn_stripe, lines_of, make_of, span_rank,
                             writing_due)

TWO = [[1, 1, 1], [1, 2, 3]]


def drawn_news(source, data):
    """New blocks for some data roles, not in the order of the roles."""
    return {role: source.randrange(256) for role in source.sample(range(data), source.randint(1, data))}


def with_news(weights, make, news):
    """The make that has the new blocks and otherwise the same data blocks."""
    return make_of(19, 2, weights, [news.get(role, make[role]) for role in range(len(weights[0]))])


class WritingCase(unittest.TestCase):

    def check(self, weights, blocks, costs, make, news):
        """Writes, and holds what is asked and told against the document; gives what is told and the Asking."""
        stripe = Stripe(blocks)
        asking = Asking(code_of(weights), stripe.ask, costs)
        kept = list(news.items())
        told = new_blocks(asking, news)
        self.assertEqual(list(news.items()), kept)
        asked, laid = writing_due(weights, blocks, costs, news)
        self.assertEqual((asking.asked, stripe.calls), (asked, asked))
        due = with_news(weights, make, news)
        if laid is None:
            self.assertIsNone(told)
            stands = [cost is not None and block is not None for cost, block in zip(costs, blocks)]
            self.assertFalse(all_fixed(lines_of(weights), stands, range(len(make))))
        else:
            self.assertIs(type(told), dict)
            self.assertEqual(list(told.items()), [(role, due[role]) for role in laid])
            # With what is laid in the place of what stood there, all that stands is part of the new make.
            for role, block in enumerate(blocks):
                if costs[role] is not None and block is not None:
                    self.assertEqual(told.get(role, block), due[role])
        return told, asking


class DrawnTest(WritingCase):
    """Points 40 to 43 together."""

    def test_drawn_stripes(self):
        source = random.Random(41)
        nones = 0
        for weights in WEIGHTS:
            for number in range(60):
                stripe, costs, make = drawn_stripe(source, weights, (0, 0.1, 0.4)[number % 3], (0, 0.2)[number % 2])
                news = drawn_news(source, len(weights[0]))
                told = self.check(weights, stripe.blocks, costs, make, news)[0]
                nones += told is None
        self.assertTrue(100 < nones < 900, nones)

    def test_every_small_stripe(self):
        for weights in ([[1, 1]], [[1, 1], [1, 2]], [[1, 0], [0, 1]], [[3, 5], [0, 7]]):
            roles = 2 + len(weights)
            make = make_of(19, 2, weights, [0x5a, 0xc3])
            for costs in itertools.product((None, 1, 3), repeat=roles):
                for gaps in itertools.product((False, True), repeat=roles):
                    blocks = [None if gap else block for gap, block in zip(gaps, make)]
                    for news in ({0: 0x11}, {1: 0xc3}, {1: 0, 0: 0xff}):
                        self.check(weights, blocks, list(costs), make, news)


class WaysTest(WritingCase):
    """Point 40: the three ways, read off what is asked."""

    def asked(self, costs, news, weights=None, gaps=()):
        weights = weights or TWO
        make = make_of(19, 2, weights, [17 * role + 5 for role in range(len(weights[0]))])
        blocks = [None if role in gaps else block for role, block in enumerate(make)]
        return self.check(weights, blocks, costs, make, news)[1].asked

    def test_the_rest(self):
        self.assertEqual(self.asked([1, 1, 1, 1, 1], {0: 9}), [1, 2])
        self.assertEqual(self.asked([9, 1, 1, 9, 9], {0: 9}), [1, 2])
        self.assertEqual(self.asked([1, 1, 1, 1, 1], {0: 9, 1: 8, 2: 7}), [])

    def test_the_change(self):
        one = [[1] * 7]
        self.assertEqual(self.asked([1] * 8, {3: 9}, one), [3, 7])
        self.assertEqual(self.asked([1] * 8, {4: 9, 3: 9}, one), [3, 4, 7])
        self.assertEqual(self.asked([1, 9, 9, 1, 1], {0: 9}), [0, 3, 4])

    def test_the_detour(self):
        # The change is dear for its own role, the rest for another: any two others are cheaper.
        self.assertEqual(self.asked([9, 9, 1, 1, 1], {0: 9}), [2, 3, 4])
        one = [[1, 1, 1, 1]]
        self.assertEqual(self.asked([None, 9, 1, 1, 1], {0: 9}, one), [1, 2, 3])
        self.assertEqual(self.asked([1, None, 1, 1, 1], {0: 9}, one), [0, 4])

    def test_the_rest_goes_ahead_of_the_change_of_equal_price(self):
        one = [[1, 1, 1]]
        self.assertEqual(self.asked([1, 1, 1, 1], {0: 9}, one), [1, 2])
        self.assertEqual(self.asked([1, 2, 2, 3], {0: 9}, one), [1, 2])
        self.assertEqual(self.asked([1, 2, 2, 2], {0: 9}, one), [0, 3])

    def test_the_rest_goes_ahead_of_a_detour_of_equal_price(self):
        self.assertEqual(self.asked([1, 3, 1, 2, 9], {0: 9}), [1, 2])

    def test_the_change_goes_ahead_of_a_detour_of_equal_price(self):
        weights = [[1, 1, 1, 1, 1, 1]]
        self.assertEqual(self.asked([3, 9, 1, 1, 1, 1, 3], {0: 9}, weights), [0, 6])

    def test_sums_that_are_not_there(self):
        self.assertEqual(self.asked([1, 1, 1, None, None], {0: 9}), [])
        self.assertEqual(self.asked([1, 1, 1, None, 1], {0: 9}), [1, 2])
        self.assertEqual(self.asked([1, 3, 3, 1, None], {0: 9}), [0, 3])

    def test_sums_that_touch_nothing_new(self):
        weights = [[1, 1, 0, 0], [0, 0, 1, 1]]
        self.assertEqual(self.asked([1] * 6, {0: 9}, weights), [1])
        self.assertEqual(self.asked([1] * 6, {3: 9}, weights), [2])
        self.assertEqual(self.asked([1] * 6, {3: 9, 0: 5}, weights), [1, 2])
        self.assertEqual(self.asked([1, 1, 1, 1, None, 1], {0: 9}, weights), [])
        told = self.check(weights, [0] * 6, [1] * 6, [0] * 6, {0: 9})[0]
        self.assertEqual(told, {0: 9, 4: 9})

    def test_blocks_that_read_as_none_on_the_way(self):
        # Role 2 of the rest does not read: what was asked ahead of it is kept, and the way chosen anew.
        self.assertEqual(self.asked([1] * 5, {0: 9}, gaps=(2,)), [1, 2, 0, 3])
        self.assertEqual(self.asked([1] * 5, {0: 9}, gaps=(1,)), [1, 0, 3, 4])
        self.assertEqual(self.asked([1] * 5, {0: 9}, gaps=(1, 0)), [1, 0, 2, 3, 4])
        self.assertEqual(self.asked([1, 9, 9, 1, 1], {0: 9}, gaps=(3,)), [0, 3, 4, 1])
        self.assertEqual(self.asked([1] * 5, {0: 9}, gaps=(1, 2, 3)), [1, 0, 3, 2])

    def test_sums_that_are_there_but_read_as_none_are_written(self):
        make = make_of(19, 2, TWO, [5, 6, 7])
        told, asking = self.check(TWO, make[:3] + [None, None], [9, 1, 1, 1, 1], make, {0: 9})
        self.assertEqual((list(told), asking.asked), ([0, 3, 4], [1, 2]))


class NewSumsTest(WritingCase):
    """Points 41 and 42."""

    def test_by_the_rest_and_by_the_change(self):
        make = make_of(19, 2, TWO, [0x12, 0x34, 0x56])
        due = with_news(TWO, make, {1: 0xff})
        for costs in ([1, 1, 1, 1, 1], [9, 1, 9, 1, 1], [1, 9, 9, 1, 1]):
            told = self.check(TWO, make, costs, make, {1: 0xff})[0]
            self.assertEqual(told, {1: 0xff, 3: due[3], 4: due[4]})

    def test_the_rest_goes_by_what_stands_not_by_the_sum(self):
        # Of a stripe with which no make agrees, the ways tell unlike sums: by the rest the old sum is not used.
        code = code_of([[1, 1]])
        asking = Asking(code, Stripe([1, 2, 99]).ask, [9, 1, 9])
        self.assertEqual(new_blocks(asking, {0: 4}), {0: 4, 2: 6})
        asking = Asking(code, Stripe([1, 2, 99]).ask, [1, 9, 1])
        self.assertEqual(new_blocks(asking, {0: 4}), {0: 4, 2: 99 ^ 1 ^ 4})

    def test_the_rest_goes_first_where_both_are_fixed(self):
        code = code_of([[1, 1]])
        asking = Asking(code, Stripe([1, 2, 99]).ask, [1, 1, 1])
        for role in range(3):
            asking.take(role)
        self.assertEqual(new_blocks(asking, {0: 4}), {0: 4, 2: 6})

    def test_roles_of_the_news_that_are_not_there(self):
        make = make_of(19, 2, TWO, [5, 6, 7])
        told = self.check(TWO, make, [None, 1, 1, 1, 1], make, {0: 9})[0]
        self.assertEqual(list(told), [3, 4])
        told = self.check(TWO, make, [None, 1, 1, None, 1], make, {0: 9, 1: 8})[0]
        self.assertEqual(list(told), [1, 4])
        told = self.check(TWO, make, [None, None, 1, 1, 1], make, {0: 9, 1: 8})[0]
        self.assertEqual(list(told), [3, 4])

    def test_none_where_a_new_block_could_not_be_told_back(self):
        make = make_of(19, 2, TWO, [5, 6, 7])
        self.assertIsNone(self.check(TWO, make, [None, None, 1, 1, None], make, {0: 9, 1: 8})[0])
        self.assertIsNone(self.check(TWO, make, [None, 1, 1, None, None], make, {0: 9})[0])
        self.assertIsNone(self.check([[1, 1]], make_of(19, 2, [[1, 1]], [5, 6]), [None, 1, None],
                                     make_of(19, 2, [[1, 1]], [5, 6]), {0: 9})[0])

    def test_none_where_the_sums_cannot_be_reckoned(self):
        make = make_of(19, 2, TWO, [5, 6, 7])
        told, asking = self.check(TWO, [None] * 3 + make[3:], [1] * 5, make, {0: 9})
        self.assertEqual((told, asking.asked), (None, [1, 0, 2]))
        self.assertIsNone(self.check(TWO, [None] * 5, [None] * 5, make, {0: 9, 1: 9, 2: 9})[0])

    def test_written_without_sums(self):
        make = make_of(19, 2, TWO, [5, 6, 7])
        told, asking = self.check(TWO, make, [1, 1, 1, None, None], make, {2: 9, 0: 3})
        self.assertEqual((list(told.items()), asking.asked), ([(0, 3), (2, 9)], []))

    def test_roles_rise_in_what_is_told(self):
        make = make_of(19, 2, TWO, [5, 6, 7])
        told = self.check(TWO, make, [1] * 5, make, {2: 1, 0: 2, 1: 3})[0]
        self.assertEqual(list(told), [0, 1, 2, 3, 4])
        told[0] = 99

    def test_the_same_blocks_again(self):
        make = make_of(19, 2, TWO, [5, 6, 7])
        told = self.check(TWO, make, [1] * 5, make, {1: 6})[0]
        self.assertEqual(told, {1: 6, 3: make[3], 4: make[4]})


class LeastPriceTest(WritingCase):
    """Point 43 for plain weights: nothing cheaper would let the new sums be reckoned."""

    def lets(self, weights, some, news, sums):
        """Whether makes that are alike on these roles have the same new sums."""
        data = len(weights[0])
        coordinates = [[int(one == other) for other in range(data)] for one in range(data)] + list(weights)
        base = [coordinates[role] for role in some]
        forms = [[0 if role in news else weight for role, weight in enumerate(weights[one - data])] for one in sums]
        return span_rank(19, base + forms) == span_rank(19, base)

    def test_writing(self):
        source = random.Random(44)
        for _ in range(250):
            sums = source.randint(1, 2)
            weights = plain_weights(source.randint(1, 7 - sums), sums)
            stripe, costs, make = drawn_stripe(source, weights, 0, 0)
            costs = [source.randint(1, source.choice((2, 4, 9))) for _ in make]
            for role in source.sample(range(len(make)), source.randint(0, sums)):
                costs[role] = None
            news = drawn_news(source, len(weights[0]))
            told, asking = self.check(weights, make, costs, make, news)
            self.assertIsNotNone(told)
            written = [role for role in range(len(weights[0]), len(make)) if costs[role] is not None]
            there = [role for role in range(len(make)) if costs[role] is not None]
            prices = [sum(costs[role] for role in some) for many in range(len(there) + 1)
                      for some in itertools.combinations(there, many) if self.lets(weights, some, news, written)]
            self.assertEqual(sum(costs[role] for role in asking.asked), min(prices))


if __name__ == "__main__":
    unittest.main()
