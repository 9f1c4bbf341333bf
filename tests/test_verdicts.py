"""Points 57 and 58: the makes with the fewest liars."""

import itertools
import random
import unittest

from spareplank.lines import plain_weights
from spareplank.verdicts import verdict_of
from tests.reckoning import GOOD_RULES, WEIGHTS, code_of, is_right, make_of


def liars_of(make, row):
    return [role for role, block in enumerate(row) if block is not None and block != make[role]]


class VerdictCase(unittest.TestCase):

    def check_form(self, code, weights, row):
        """Asks, and holds the parts of the answer against the document; gives the answer."""
        rule, many = code.blocks.field.rule, code.blocks.many
        kept = list(row)
        told = verdict_of(code, row)
        self.assertEqual((row, type(told), len(told)), (kept, tuple, 3))
        makes = {"right": told[1:2], "lies": told[2:], "open": told[1:]}[told[0]]
        for make in makes:
            self.assertIs(type(make), list)
            self.assertTrue(is_right(rule, many, weights, make))
            self.assertTrue(all(code.blocks.good(block) for block in make))
        if told[0] == "right":
            self.assertEqual((liars_of(told[1], row), told[2]), ([], code.sums - row.count(None)))
        elif told[0] == "lies":
            self.assertEqual(liars_of(told[2], row), [told[1]])
        else:
            self.assertNotEqual(told[1], told[2])
            self.assertEqual(len(liars_of(told[1], row)), len(liars_of(told[2], row)))
        return told


class AgainstAllMakesTest(VerdictCase):
    """Point 57, held against all makes of small codes."""

    def check_all(self, code, weights, makes, row):
        told = self.check_form(code, weights, row)
        counts = [len(liars_of(make, row)) for make in makes]
        least = min(counts)
        best = [make for make, count in zip(makes, counts) if count == least]
        if len(best) == 1:
            self.assertIn(least, (0, 1))
            due = ("right", best[0], told[2]) if least == 0 else ("lies", liars_of(best[0], row)[0], best[0])
            self.assertEqual(told, due)
        else:
            self.assertEqual(told[0], "open")
            self.assertTrue(told[1] in best and told[2] in best)
        return told[0], least

    def all_makes(self, weights):
        return [make_of(19, 1, weights, list(data)) for data in itertools.product(range(16), repeat=len(weights[0]))]

    def test_drawn_rows(self):
        source = random.Random(57)
        seen = {}
        small = [weights for weights in WEIGHTS if len(weights[0]) <= 3]
        self.assertGreater(len(small), 8)
        for weights in small:
            code, makes = code_of(weights, 19, 1), self.all_makes(weights)
            for _ in range(40):
                row = list(source.choice(makes))
                for role in source.sample(range(code.roles), source.randint(0, min(3, code.roles))):
                    row[role] = source.choice((None, source.randrange(16)))
                answer = self.check_all(code, weights, makes, row)
                seen[answer] = seen.get(answer, 0) + 1
        self.assertEqual(set(seen), {("right", 0), ("lies", 1), ("open", 0), ("open", 1), ("open", 2)})

    def test_every_row_of_one_data_role(self):
        for weights in ([[1]], [[7]], [[1], [1]], [[3], [8]]):
            code, makes = code_of(weights, 19, 1), self.all_makes(weights)
            some = [None] + list(range(0, 16, 3 if len(weights) == 2 else 1))
            for row in itertools.product(some, repeat=code.roles):
                self.check_all(code, weights, makes, list(row))

    def test_every_row_of_a_few_blocks(self):
        for weights in ([[1, 1]], [[1, 1], [1, 2]], [[1, 0], [0, 1]], [[1, 1], [1, 1]], [[1, 1], [0, 5]]):
            code, makes = code_of(weights, 19, 1), self.all_makes(weights)
            for row in itertools.product((None, 0, 1, 2), repeat=code.roles):
                self.check_all(code, weights, makes, list(row))


class PlainWeightsTest(VerdictCase):
    """Point 58, with plain weights."""

    def scenes(self):
        source = random.Random(58)
        for rule, many in ((19, 1), (37, 2), (285, 16)):
            for sums in (1, 2):
                for data in range(1, 9 - sums):
                    weights = plain_weights(data, sums)
                    code = code_of(weights, rule, many)
                    blocks = [source.randrange(code.blocks.limit) for _ in range(data)]
                    yield source, code, weights, make_of(rule, many, weights, blocks)

    def changed(self, source, code, make, role):
        row = list(make)
        row[role] ^= source.randrange(1, code.blocks.limit)
        return row

    def test_makes_are_right(self):
        for _, code, weights, make in self.scenes():
            for many in range(code.sums + 1):
                for gaps in itertools.combinations(range(code.roles), many):
                    row = [None if role in gaps else block for role, block in enumerate(make)]
                    self.assertEqual(self.check_form(code, weights, row), ("right", make, code.sums - many))

    def test_one_changed_block_without_gaps(self):
        for source, code, weights, make in self.scenes():
            for role in range(code.roles):
                row = self.changed(source, code, make, role)
                told = self.check_form(code, weights, row)
                if code.sums == 2:
                    self.assertEqual(told, ("lies", role, make))
                else:
                    self.assertEqual(told[0], "open")
                    self.assertEqual([len(liars_of(one, row)) for one in told[1:]], [1, 1])

    def test_one_changed_block_with_gaps(self):
        for source, code, weights, make in self.scenes():
            for many in range(1, code.sums + 1):
                for gaps in itertools.combinations(range(code.roles), many):
                    role = source.choice([one for one in range(code.roles) if one not in gaps])
                    row = [None if one in gaps else block
                           for one, block in enumerate(self.changed(source, code, make, role))]
                    told = self.check_form(code, weights, row)
                    if many == code.sums:
                        self.assertEqual((told[0], told[2]), ("right", 0))
                        self.assertNotEqual(told[1], make)
                    else:
                        self.assertEqual(told[0], "open")
                        self.assertEqual([len(liars_of(one, row)) for one in told[1:]], [1, 1])

    def test_more_gaps_than_sums_are_open_without_liars(self):
        for _, code, weights, make in self.scenes():
            for many in range(code.sums + 1, code.roles + 1):
                row = [None] * many + make[many:]
                told = self.check_form(code, weights, row)
                self.assertEqual((told[0], liars_of(told[1], row), liars_of(told[2], row)), ("open", [], []))


class OtherWeightsTest(VerdictCase):
    """Point 57 by any weights and great codes."""

    def test_sums_that_do_not_share_roles(self):
        weights = [[1, 1, 0, 0], [0, 0, 1, 1]]
        code = code_of(weights)
        make = make_of(19, 2, weights, [5, 6, 7, 8])
        row = [None if role == 0 else block for role, block in enumerate(make)]
        self.assertEqual(self.check_form(code, weights, row), ("right", make, 1))
        row = [None if role in (0, 2) else block for role, block in enumerate(make)]
        self.assertEqual(self.check_form(code, weights, row), ("right", make, 0))
        row = [None if role in (0, 1) else block for role, block in enumerate(make)]
        self.assertEqual(self.check_form(code, weights, row)[0], "open")
        row = [block ^ (role in (0, 2)) for role, block in enumerate(make)]
        self.assertEqual(len(liars_of(self.check_form(code, weights, row)[1], row)), 2)

    def test_a_role_that_one_sum_alone_touches(self):
        weights = [[1, 1, 1], [0, 0, 4]]
        code = code_of(weights)
        make = make_of(19, 2, weights, [5, 6, 7])
        row = [block ^ (9 * (role == 2)) for role, block in enumerate(make)]
        self.assertEqual(self.check_form(code, weights, row), ("lies", 2, make))
        row = [block ^ (9 * (role == 4)) for role, block in enumerate(make)]
        self.assertEqual(self.check_form(code, weights, row), ("lies", 4, make))
        row = [block ^ (9 * (role == 0)) for role, block in enumerate(make)]
        self.assertEqual(self.check_form(code, weights, row)[0], "open")

    def test_every_rule(self):
        for rule in GOOD_RULES:
            weights = plain_weights(6, 2)
            code = code_of(weights, rule, 3)
            make = make_of(rule, 3, weights, [code.blocks.limit - 1 - role for role in range(6)])
            for role in range(8):
                row = list(make)
                row[role] ^= 1
                self.assertEqual(self.check_form(code, weights, row), ("lies", role, make))

    def test_answers_are_the_askers_own(self):
        code = code_of([[1, 1]])
        for row in ([1, 2, 3], [1, 2, 4], [None, None, 4]):
            told = verdict_of(code, row)
            kept = [list(part) if isinstance(part, list) else part for part in told]
            for part in told:
                if isinstance(part, list):
                    part.clear()
            self.assertEqual(list(verdict_of(code, row)), kept)


if __name__ == "__main__":
    unittest.main()
