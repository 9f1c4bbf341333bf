"""Points 8 to 10: rules, doubling, products, backs, powers, tables."""

import unittest

from spareplank.errors import NoBack, NoField
from spareplank.field import Field
from tests.reckoning import GOOD_RULES, after_of, doubled, product, spread

FAR_RULES = [-1, -2, -15, -16, -17, -19, -285, -511, -512, -(10 ** 29) - 1, 10 ** 30 - 1, 10 ** 29, 10 ** 29 + 19,
             2 ** 64 + 19, 2 ** 96 + 285, 512, 513, 529, 1023, 1033]


def picked(field):
    """All symbols of a small field, some of a larger one, the edges among them."""
    if field.last < 32:
        return list(range(field.last + 1))
    half = field.last // 2
    edges = [0, 1, 2, 3, half - 1, half, half + 1, half + 2, field.last - 1, field.last]
    return sorted(set(edges + spread(field.last + 1, 16)))


class RulesTest(unittest.TestCase):
    """Point 8: rules taken and refused."""

    def check_rule(self, rule):
        after = after_of(rule)
        width = len(bin(abs(rule))) - 3
        if after and after == 2 ** width - 1:
            field = Field(rule)
            self.assertEqual((field.rule, field.width, field.last), (rule, width, 2 ** width - 1))
            self.assertTrue(all(type(value) is int for value in (field.rule, field.width, field.last)))
            return
        with self.assertRaises(NoField) as caught:
            Field(rule)
        self.assertEqual((caught.exception.rule, caught.exception.after), (rule, after))

    def test_every_rule_up_to_600_asked_twice(self):
        for _ in range(2):
            for rule in range(601):
                with self.subTest(rule):
                    self.check_rule(rule)

    def test_far_rules_asked_twice(self):
        for rule in FAR_RULES + FAR_RULES:
            with self.subTest(rule):
                self.check_rule(rule)
                self.assertEqual(after_of(rule), 0)

    def test_how_many_rules_of_each_width_are_good(self):
        found = {width: 0 for width in range(4, 9)}
        for rule in range(601):
            try:
                found[Field(rule).width] += 1
            except NoField:
                pass
        self.assertEqual(found, {4: 2, 5: 6, 6: 6, 7: 18, 8: 16})

    def test_rules_by_hand(self):
        for rule, after in ((15, 0), (16, 0), (17, 4), (18, 0), (21, 6), (31, 5), (257, 8), (283, 51), (510, 0),
                            (511, 9), (512, 0), (0, 0), (1, 0), (-19, 0)):
            with self.subTest(rule):
                with self.assertRaises(NoField) as caught:
                    Field(rule)
                self.assertEqual((caught.exception.rule, caught.exception.after), (rule, after))


class DoublingTest(unittest.TestCase):
    """Point 8: a symbol doubled."""

    def test_every_symbol(self):
        for rule in GOOD_RULES:
            field = Field(rule)
            for symbol in range(field.last + 1):
                with self.subTest(rule=rule, symbol=symbol):
                    self.assertEqual(field.double(symbol), doubled(rule, symbol))

    def test_where_twice_comes_above_last(self):
        field = Field(19)
        self.assertEqual([field.double(symbol) for symbol in (0, 1, 6, 7, 8, 9, 15)], [0, 2, 12, 14, 3, 1, 13])
        field = Field(285)
        self.assertEqual([field.double(symbol) for symbol in (126, 127, 128, 129, 255)], [252, 254, 29, 31, 227])

    def test_double_is_the_product_with_two(self):
        for rule in GOOD_RULES:
            field = Field(rule)
            for symbol in range(field.last + 1):
                self.assertEqual(field.double(symbol), field.times(symbol, 2))
                self.assertEqual(field.double(symbol), field.times(2, symbol))


class ProductsTest(unittest.TestCase):
    """Point 9: products."""

    def test_pairs_in_both_orders(self):
        for rule in GOOD_RULES:
            field = Field(rule)
            for one in picked(field):
                for other in picked(field):
                    with self.subTest(rule=rule, one=one, other=other):
                        due = product(rule, one, other)
                        self.assertEqual(field.times(one, other), due)
                        self.assertEqual(field.times(other, one), due)
                        self.assertTrue(0 <= due <= field.last)

    def test_groupings_and_sums(self):
        for rule in GOOD_RULES:
            field = Field(rule)
            some = picked(field)[::2] + [1, field.last]
            for one in some:
                for two in some:
                    for three in some:
                        left = field.times(field.times(one, two), three)
                        self.assertEqual(left, field.times(one, field.times(two, three)))
                        parts = field.times(one, two) ^ field.times(one, three)
                        self.assertEqual(field.times(one, two ^ three), parts)
                        self.assertEqual(field.times(two ^ three, one), parts)

    def test_with_nought_one_and_last(self):
        for rule in GOOD_RULES:
            field = Field(rule)
            for symbol in range(field.last + 1):
                self.assertEqual(field.times(symbol, 0), 0)
                self.assertEqual(field.times(0, symbol), 0)
                self.assertEqual(field.times(symbol, 1), symbol)
                self.assertEqual(field.times(1, symbol), symbol)
                self.assertEqual(field.times(symbol, field.last), product(rule, symbol, field.last))

    def test_nought_only_with_nought(self):
        for rule in GOOD_RULES:
            field = Field(rule)
            for one in range(1, field.last + 1):
                others = range(1, field.last + 1) if field.last < 64 else picked(field)[1:]
                self.assertNotIn(0, [field.times(one, other) for other in others])

    def test_products_by_hand(self):
        field = Field(19)
        self.assertEqual([field.times(7, 9), field.times(15, 15), field.times(8, 8), field.times(3, 3)], [10, 10, 12, 5])
        self.assertEqual(Field(285).times(128, 2), 29)


class BacksAndPowersTest(unittest.TestCase):
    """Point 10: backs and powers."""

    def test_every_back(self):
        for rule in GOOD_RULES:
            field = Field(rule)
            for symbol in range(1, field.last + 1):
                back = field.back(symbol)
                with self.subTest(rule=rule, symbol=symbol):
                    self.assertTrue(1 <= back <= field.last)
                    self.assertEqual(product(rule, symbol, back), 1)
                    self.assertEqual(field.back(back), symbol)

    def test_nought_has_no_back(self):
        for rule in GOOD_RULES:
            with self.assertRaises(NoBack):
                Field(rule).back(0)

    def test_powers(self):
        for rule in GOOD_RULES:
            field = Field(rule)
            for symbol in (0, 1, 2, 3, field.last // 2 + 1, field.last):
                due = [1]
                while len(due) <= 1000:
                    due.append(product(rule, due[-1], symbol))
                for many in range(1001):
                    with self.subTest(rule=rule, symbol=symbol, many=many):
                        self.assertEqual(field.power(symbol, many), due[many])

    def test_powers_of_nought_and_of_no_times(self):
        field = Field(19)
        self.assertEqual([field.power(0, many) for many in (0, 1, 2, 15, 1000)], [1, 0, 0, 0, 0])
        self.assertEqual([field.power(symbol, 0) for symbol in range(16)], [1] * 16)
        self.assertEqual([field.power(symbol, 15) for symbol in range(1, 16)], [1] * 15)


class TablesTest(unittest.TestCase):
    """Points 10 and 2: tables are lists of the asker's own."""

    def test_length_and_members(self):
        for rule in GOOD_RULES:
            field = Field(rule)
            for symbol in picked(field):
                table = field.table(symbol)
                with self.subTest(rule=rule, symbol=symbol):
                    self.assertIs(type(table), list)
                    self.assertEqual(table, [product(rule, symbol, other) for other in range(field.last + 1)])

    def test_a_new_list_each_time(self):
        field = Field(25)
        for symbol in range(16):
            due = [product(25, symbol, other) for other in range(16)]
            table = field.table(symbol)
            self.assertIsNot(field.table(symbol), table)
            table[3] = 99
            table.append(1)
            self.assertEqual(field.table(symbol), due)
            field.table(symbol).clear()
            self.assertEqual(field.table(symbol), due)
            self.assertEqual([field.times(symbol, other) for other in range(16)], due)

    def test_two_fields_side_by_side(self):
        first, second, third = Field(19), Field(25), Field(285)
        for symbol in range(16):
            for rule, field in ((19, first), (25, second), (285, third)):
                self.assertEqual((field.rule, field.double(symbol)), (rule, doubled(rule, symbol)))
                self.assertEqual(field.table(symbol)[:16], [product(rule, symbol, other) for other in range(16)])
        self.assertNotEqual(first.table(9), second.table(9))
        self.assertEqual((first.last, second.last, third.last), (15, 15, 255))


if __name__ == "__main__":
    unittest.main()
