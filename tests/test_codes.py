"""Points 21 and 23 to 27: codes, makes, what is fixed, rows, papers."""

import copy
import itertools
import random
import unittest

from spareplank.blocks import Blocks
from spareplank.codes import Code
from spareplank.errors import NoCode, NoPlace
from spareplank.field import Field
from spareplank.lines import plain_weights
from tests.reckoning import (GOOD_RULES, WEIGHTS, code_of, fixed, is_right, line_sum, lines_of, make_of, product,
                             spread, weighted)

FAR = [-(10 ** 29), -9, -1]


def sights(roles):
    """All ways in which roles may be known or not."""
    return [list(known) for known in itertools.product((False, True), repeat=roles)]


def with_gaps(make, known):
    return [block if is_known else None for block, is_known in zip(make, known)]


def drawn_make(source, code, weights):
    blocks = code.blocks
    data = [source.randrange(blocks.limit) for _ in range(code.data)]
    return make_of(blocks.field.rule, blocks.many, weights, data)


class WeightsTest(unittest.TestCase):
    """Point 21: weights taken and refused."""

    def refused(self, weights, rule=19):
        with self.assertRaises(NoCode):
            Code(Blocks(Field(rule), 2), weights)

    def test_values(self):
        for weights in WEIGHTS:
            blocks = Blocks(Field(19), 3)
            code = Code(blocks, [list(line) for line in weights])
            self.assertIs(code.blocks, blocks)
            self.assertEqual((code.data, code.sums, code.roles),
                             (len(weights[0]), len(weights), len(weights[0]) + len(weights)))

    def test_how_many_lists(self):
        self.refused([])
        self.refused([[1, 1]] * 3)
        self.refused([[1]] * 9)
        self.assertEqual(code_of([[1, 1]]).sums, 1)
        self.assertEqual(code_of([[1, 1]] * 2).sums, 2)

    def test_how_long_they_are(self):
        for data in range(12):
            for sums in (1, 2):
                weights = [[1] * data for _ in range(sums)]
                if 1 <= data <= 8 - sums:
                    self.assertEqual(code_of(weights).data, data)
                else:
                    self.refused(weights)
        self.refused([[]])
        self.refused([[], []])
        self.refused([[1, 2], [1]])
        self.refused([[1], [1, 2]])
        self.refused([[1], []])
        self.refused([[], [1]])
        self.refused([[1] * 6, [1] * 7])

    def test_what_is_no_symbol(self):
        for rule in GOOD_RULES:
            last = Field(rule).last
            self.assertEqual(code_of([[last, 1], [0, last]], rule).data, 2)
            for bad in (last + 1, last + 2, -1, -last, 10 ** 29, -(10 ** 29)):
                self.refused([[bad]], rule)
                self.refused([[1, bad]], rule)
                self.refused([[1, 1], [bad, 1]], rule)
                self.refused([[1, 1], [1, bad]], rule)
                self.refused([[0, bad], [1, 1]], rule)

    def test_a_sum_of_nothing(self):
        self.refused([[0]])
        self.refused([[0, 0, 0]])
        self.refused([[1, 1], [0, 0]])
        self.refused([[0, 0], [1, 1]])

    def test_a_role_that_no_sum_touches(self):
        self.refused([[1, 0]])
        self.refused([[0, 1, 1]])
        self.refused([[1, 0, 1], [1, 0, 1]])
        self.refused([[1, 1, 0], [0, 1, 0]])
        self.assertEqual(code_of([[1, 0], [0, 1]]).roles, 4)

    def test_equations(self):
        for weights in WEIGHTS:
            code = code_of(weights)
            self.assertEqual(code.equations(), lines_of(weights))
        self.assertEqual(code_of([[3, 4]]).equations(), [[3, 4, 1]])
        self.assertEqual(code_of([[3, 4], [5, 0]]).equations(), [[3, 4, 1, 0], [5, 0, 0, 1]])

    def test_weights_changed_later_change_nothing(self):
        weights = [[1, 2, 3], [4, 5, 6]]
        code = Code(Blocks(Field(19), 2), weights)
        self.assertEqual(weights, [[1, 2, 3], [4, 5, 6]])
        weights[0][0] = 9
        weights[1].clear()
        weights.pop()
        due = [[1, 2, 3, 1, 0], [4, 5, 6, 0, 1]]
        self.assertEqual(code.equations(), due)
        told = code.equations()
        told[0][0] = 8
        told.pop()
        self.assertEqual(code.equations(), due)
        self.assertTrue(code.touches(1, 2))
        self.assertEqual(code.made([1, 0, 0]), [1, 0, 0, 1, 4])

    def test_touches(self):
        for weights in WEIGHTS:
            code = code_of(weights)
            for total, line in enumerate(weights):
                for role, weight in enumerate(line):
                    self.assertIs(code.touches(total, role), weight != 0)

    def test_order_of_the_refusals_of_touches(self):
        for weights in WEIGHTS:
            code = code_of(weights)
            for total in FAR + [code.sums, code.sums + 1, 10 ** 29]:
                for role in FAR + [0, code.data - 1, code.data, 10 ** 28]:
                    with self.assertRaises(NoPlace) as caught:
                        code.touches(total, role)
                    self.assertEqual(caught.exception.place, total)
            for total in range(code.sums):
                for role in FAR + [code.data, code.roles - 1, code.roles, 10 ** 29]:
                    with self.assertRaises(NoPlace) as caught:
                        code.touches(total, role)
                    self.assertEqual(caught.exception.place, role)


class MakesTest(unittest.TestCase):
    """Point 23."""

    def test_makes_and_rows_with_one_changed_block(self):
        source = random.Random(23)
        for rule, many in ((19, 1), (19, 3), (37, 2), (285, 16)):
            for weights in WEIGHTS:
                code = code_of(weights, rule, many)
                data = [source.randrange(code.blocks.limit) for _ in range(code.data)]
                make = code.made(data)
                self.assertEqual(make, make_of(rule, many, weights, data))
                self.assertIs(type(make), list)
                self.assertIs(code.is_make(make), True)
                for role in range(code.roles):
                    for change in {1, code.blocks.limit - 1, source.randrange(1, code.blocks.limit)}:
                        row = list(make)
                        row[role] ^= change
                        self.assertIs(code.is_make(row), False)

    def test_by_hand(self):
        code = code_of([[1, 1, 1], [1, 2, 3]], 19, 2)
        self.assertEqual(code.made([0, 0, 0]), [0] * 5)
        self.assertEqual(code.made([0x12, 0x00, 0x00]), [0x12, 0, 0, 0x12, 0x12])
        self.assertEqual(code.made([0, 0x98, 0]), [0, 0x98, 0, 0x98, 0x13])
        self.assertTrue(code.is_make([0, 0x98, 0, 0x98, 0x13]))
        self.assertFalse(code.is_make([0, 0x98, 0, 0x98, 0x12]))
        self.assertFalse(code.is_make([0, 0x98, 0, 0x99, 0x13]))

    def test_what_is_handed_in_and_given(self):
        code = code_of([[1, 2]])
        data = [5, 6]
        make = code.made(data)
        make[0] = 99
        self.assertEqual(data, [5, 6])
        row = code.made(data)
        kept = list(row)
        code.is_make(row)
        self.assertEqual(row, kept)

    def test_every_row_of_a_small_code(self):
        code = code_of([[3, 5]], 19, 1)
        makes = [list(row) for row in itertools.product(range(16), repeat=3) if code.is_make(list(row))]
        self.assertEqual(makes, [[one, other, product(19, 3, one) ^ product(19, 5, other)]
                                 for one in range(16) for other in range(16)])


class ToldTest(unittest.TestCase):
    """Point 24."""

    def check_told(self, code, weights, known, role):
        rule = code.blocks.field.rule
        told = code.told(known, role)
        lines = lines_of(weights)
        if told[0] == "reckoned":
            total = [0] * code.roles
            for factor, line in zip(told[1], lines):
                total = [one ^ product(rule, factor, symbol) for one, symbol in zip(total, line)]
            unknown = [other for other in range(code.roles) if not known[other]]
            self.assertEqual([total[other] for other in unknown], [int(other == role) for other in unknown])
        else:
            self.assertEqual((told[0], told[1][role]), ("free", 1))
            self.assertEqual([line_sum(rule, line, told[1]) for line in lines], [0] * len(lines))
            self.assertFalse([symbol for symbol, is_known in zip(told[1], known) if is_known and symbol])
        return told[0] == "reckoned"

    def test_every_sight_of_every_code(self):
        for rule in (19, 285):
            for weights in WEIGHTS:
                code = code_of(weights, rule)
                lines = lines_of(weights)
                for known in sights(code.roles):
                    kept = list(known)
                    for role in range(code.roles):
                        due = fixed(rule, lines, known, role)
                        self.assertIs(code.fixes(known, role), due)
                        if not known[role]:
                            self.assertEqual(self.check_told(code, weights, known, role), due)
                    self.assertEqual(known, kept)

    def test_plain_weights_fix_all_with_no_more_gaps_than_sums(self):
        for rule in GOOD_RULES:
            for sums in (1, 2):
                for data in range(1, 9 - sums):
                    code = code_of(plain_weights(data, sums), rule)
                    for known in sights(code.roles):
                        due = known.count(False) <= sums
                        answers = [code.fixes(known, role) for role in range(code.roles)]
                        self.assertEqual(all(answers), due)

    def test_known_roles_and_roles_out_of_range(self):
        for weights in WEIGHTS[:8]:
            code = code_of(weights)
            for known in ([False] * code.roles, [True] * code.roles):
                for role in FAR + [-code.roles, code.roles, code.roles + 1, 10 ** 29]:
                    for method in (code.told, code.fixes):
                        with self.assertRaises(NoPlace) as caught:
                            method(known, role)
                        self.assertEqual(caught.exception.place, role)
            for role in range(code.roles):
                known = [other == role for other in range(code.roles)]
                with self.assertRaises(NoPlace) as caught:
                    code.told(known, role)
                self.assertEqual(caught.exception.place, role)
                self.assertIs(code.fixes(known, role), True)

    def test_lists_told_are_the_askers_own(self):
        code = code_of([[1, 1, 1], [1, 2, 3]])
        for known in ([False, True, True, True, False], [False, False, False, True, False]):
            told = code.told(known, 0)
            kept = list(told[1])
            told[1][0] = 77
            told[1].append(3)
            self.assertEqual(code.told(known, 0)[1], kept)
            self.assertEqual(code.equations(), [[1, 1, 1, 1, 0], [1, 2, 3, 0, 1]])


class ReckonedTest(unittest.TestCase):
    """Points 25 and 26."""

    def codes(self):
        for rule, many in ((19, 1), (37, 3), (285, 2)):
            for weights in WEIGHTS:
                yield code_of(weights, rule, many), weights, lines_of(weights)

    def test_rows_with_which_a_make_agrees(self):
        source = random.Random(25)
        for code, weights, lines in self.codes():
            make = drawn_make(source, code, weights)
            for known in sights(code.roles):
                row = with_gaps(make, known)
                kept = list(row)
                for role in range(code.roles):
                    due = make[role] if fixed(code.blocks.field.rule, lines, known, role) else None
                    self.assertEqual(code.reckoned(row, role), due)
                self.assertEqual(row, kept)

    def test_filled_rows_with_which_a_make_agrees(self):
        source = random.Random(26)
        for code, weights, lines in self.codes():
            rule, many = code.blocks.field.rule, code.blocks.many
            make = drawn_make(source, code, weights)
            for known in sights(code.roles):
                row = with_gaps(make, known)
                kept = list(row)
                told = code.filled(row)
                self.assertEqual((row, type(told)), (kept, list))
                self.assertTrue(is_right(rule, many, weights, told))
                self.assertEqual([told[role] for role in range(code.roles) if known[role]],
                                 [make[role] for role in range(code.roles) if known[role]])
                self.check_filling(code, lines, row, told)

    def check_filling(self, code, lines, row, told):
        """Where nothing fixes a role, from the lowest on, there is 0."""
        known = [block is not None for block in row]
        for role in range(code.roles):
            if not known[role]:
                if not fixed(code.blocks.field.rule, lines, known, role):
                    self.assertEqual(told[role], 0)
                known[role] = True

    def test_rows_with_which_no_make_agrees(self):
        source = random.Random(27)
        for code, weights, lines in self.codes():
            rule, many = code.blocks.field.rule, code.blocks.many
            make = drawn_make(source, code, weights)
            for known in sights(code.roles):
                for role in [other for other in range(code.roles) if known[other]]:
                    less = [is_known and other != role for other, is_known in enumerate(known)]
                    if not fixed(rule, lines, less, role):
                        continue
                    row = with_gaps(make, known)
                    row[role] ^= source.randrange(1, code.blocks.limit)
                    kept = list(row)
                    for other in range(code.roles):
                        told = code.reckoned(row, other)
                        if known[other]:
                            self.assertEqual(told, row[other])
                        else:
                            self.assertEqual(told is None, not fixed(rule, lines, known, other))
                    full = code.filled(row)
                    self.assertEqual(row, kept)
                    self.assertEqual(with_gaps(full, known), row)
                    self.assertFalse(is_right(rule, many, weights, full))
                    self.assertFalse(None in full)

    def test_roles_out_of_range(self):
        for code, weights, _ in self.codes():
            for row in ([None] * code.roles, [0] * code.roles):
                for role in FAR + [code.roles, 10 ** 29, -code.roles]:
                    with self.assertRaises(NoPlace) as caught:
                        code.reckoned(row, role)
                    self.assertEqual(caught.exception.place, role)

    def test_by_hand(self):
        code = code_of([[1, 1, 1], [1, 2, 3]], 19, 2)
        self.assertEqual(code.reckoned([None, 0x98, 0, None, 0x13], 0), 0)
        self.assertEqual(code.reckoned([None, 0x98, 0, None, 0x13], 3), 0x98)
        self.assertIsNone(code.reckoned([None, 0x98, None, None, 0x13], 0))
        self.assertEqual(code.filled([None, None, None, None, None]), [0] * 5)
        self.assertEqual(code.filled([None, None, None, 5, None]), [0, 0, 5, 5, 15])
        self.assertEqual(code.filled([1, 2, 3, 4, 5]), [1, 2, 3, 4, 5])
        self.assertEqual(code.filled([1, 2, 3, None, None]), code.made([1, 2, 3]))

    def test_great_blocks(self):
        source = random.Random(28)
        code = code_of(plain_weights(6, 2), 285, 16)
        make = drawn_make(source, code, plain_weights(6, 2))
        for one, other in itertools.combinations(range(8), 2):
            row = [None if role in (one, other) else block for role, block in enumerate(make)]
            self.assertEqual(code.filled(row), make)
            self.assertEqual([code.reckoned(row, role) for role in range(8)], make)


class PaperTest(unittest.TestCase):
    """Point 27."""

    def check_paper(self, code, weights, row):
        rule, many = code.blocks.field.rule, code.blocks.many
        known = [block is not None for block in row]
        lines = lines_of(weights)
        paper = code.paper(row)
        self.assertEqual((type(paper), len(paper)), (list, code.roles))
        lists = []
        for role, told in enumerate(paper):
            self.assertIs(type(told), tuple)
            if known[role]:
                self.assertEqual(told, ("read", row[role]))
            elif fixed(rule, lines, known, role):
                self.check_reckoned(code, weights, row, role, told)
                lists.append(told[2])
            else:
                self.assertEqual((len(told), told[0]), (3, "free"))
                for make in told[1:]:
                    self.assertTrue(is_right(rule, many, weights, make))
                    self.assertEqual(with_gaps(make, known), row)
                    self.assertTrue(all(code.blocks.good(block) for block in make))
                self.assertNotEqual(told[1][role], told[2][role])
                lists.extend(told[1:])
        self.assertTrue(all(type(some) is list for some in lists))
        self.assertEqual(len({id(some) for some in lists}), len(lists))

    def check_reckoned(self, code, weights, row, role, told):
        rule, many = code.blocks.field.rule, code.blocks.many
        self.assertEqual((len(told), told[0], told[1], len(told[2])),
                         (3, "reckoned", code.reckoned(row, role), code.sums))
        line = [0] * code.roles
        for factor, equation in zip(told[2], lines_of(weights)):
            line = [one ^ product(rule, factor, symbol) for one, symbol in zip(line, equation)]
        for other in range(code.roles):
            if row[other] is None:
                self.assertEqual(line[other], int(other == role))
        self.assertEqual(told[1], weighted(rule, many, line, [0 if block is None else block for block in row]))

    def test_every_sight(self):
        source = random.Random(29)
        for rule, many in ((19, 1), (285, 3)):
            for weights in WEIGHTS:
                code = code_of(weights, rule, many)
                make = drawn_make(source, code, weights)
                for known in sights(code.roles):
                    row = with_gaps(make, known)
                    kept = copy.deepcopy(row)
                    self.check_paper(code, weights, row)
                    self.assertEqual(row, kept)

    def test_changed_papers_change_nothing(self):
        code = code_of([[1, 1, 1]])
        row = [None, None, 3, 4]
        first = code.paper(row)
        kept = copy.deepcopy(first)
        for told in first:
            for some in told[1:]:
                if type(some) is list:
                    some.clear()
        self.assertEqual([told[0] for told in code.paper(row)], [told[0] for told in kept])
        self.check_paper(code, [[1, 1, 1]], row)

    def test_rows_with_which_no_make_agrees(self):
        code = code_of([[1, 1, 1], [1, 2, 3]])
        words = [told[0] for told in code.paper([1, 1, 1, 0, 0])]
        self.assertEqual(words, ["read"] * 5)
        code = code_of([[1, 1, 0, 0], [0, 0, 1, 1]])
        words = [told[0] for told in code.paper([1, 1, None, None, 9, 9])]
        self.assertEqual(words, ["read", "read", "free", "free", "read", "read"])
        words = [told[0] for told in code.paper([1, 1, None, 3, 9, 9])]
        self.assertEqual(words, ["read", "read", "reckoned", "read", "read", "read"])

    def test_by_hand(self):
        code = code_of([[1, 1]], 19, 2)
        self.assertEqual(code.paper([0x12, None, 0x30]), [("read", 0x12), ("reckoned", 0x22, [1]), ("read", 0x30)])


class SideBySideTest(unittest.TestCase):
    """Point 2: codes by one Blocks have nothing in common."""

    def test_two_codes(self):
        blocks = Blocks(Field(19), 2)
        weights = [[1, 1]]
        first = Code(blocks, weights)
        weights[0][1] = 5
        second = Code(blocks, weights)
        for block in spread(blocks.limit, 10):
            self.assertEqual(first.made([0, block])[2], block)
            self.assertEqual(second.made([0, block])[2], weighted(19, 2, [5], [block]))


if __name__ == "__main__":
    unittest.main()
