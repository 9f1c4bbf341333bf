"""Points 20 and 22: what known places tell of another, and plain weights."""

import copy
import itertools
import random
import unittest

from spareplank.errors import NoPlace
from spareplank.field import Field
from spareplank.lines import plain_weights, told_of
from tests.reckoning import GOOD_RULES, fixed, line_sum, product


def summed_by(rule, by, lines, many):
    """The sum of the lines, each times its symbol in by."""
    total = [0] * many
    for factor, line in zip(by, lines):
        total = [one ^ product(rule, factor, symbol) for one, symbol in zip(total, line)]
    return total


def drawn_lines(source, last, count, many):
    """Lines of all sorts: some with many noughts, some that are sums or multiples of others."""
    lines = []
    for _ in range(count):
        sort = source.randrange(5)
        if sort == 0 and lines:
            lines.append(list(source.choice(lines)))
        elif sort == 1 and len(lines) > 1:
            lines.append([one ^ other for one, other in zip(source.choice(lines), source.choice(lines))])
        elif sort == 2:
            lines.append([source.choice((0, 0, 0, 1, source.randint(0, last))) for _ in range(many)])
        else:
            lines.append([source.randint(0, last) for _ in range(many)])
    return lines


class ToldOfTest(unittest.TestCase):
    """Point 20, each answer held against what by and make are to be."""

    def check(self, field, lines, known, place):
        """Asks, holds the answer against the document's words, and gives its first word."""
        before = copy.deepcopy((lines, known))
        told = told_of(field, lines, known, place)
        self.assertEqual((lines, known), before)
        self.assertEqual((type(told), len(told), type(told[1])), (tuple, 2, list))
        self.assertTrue(all(type(symbol) is int and 0 <= symbol <= field.last for symbol in told[1]))
        if told[0] == "reckoned":
            self.assertEqual(len(told[1]), len(lines))
            total = summed_by(field.rule, told[1], lines, len(known))
            for other in range(len(known)):
                if not known[other]:
                    self.assertEqual(total[other], int(other == place))
        else:
            self.assertEqual(told[0], "free")
            self.assertEqual(len(told[1]), len(known))
            self.assertEqual(told[1][place], 1)
            self.assertFalse([symbol for symbol, is_known in zip(told[1], known) if is_known and symbol])
            self.assertEqual([line_sum(field.rule, line, told[1]) for line in lines], [0] * len(lines))
        return told[0]

    def test_drawn_lines(self):
        source = random.Random(20)
        words = {"reckoned": 0, "free": 0}
        for rule in GOOD_RULES:
            field = Field(rule)
            for _ in range(150):
                many = source.randint(1, 12)
                lines = drawn_lines(source, field.last, source.randint(0, 8), many)
                share = source.random()
                known = [source.random() < share for _ in range(many)]
                for place in range(many):
                    if not known[place]:
                        words[self.check(field, lines, known, place)] += 1
        self.assertGreater(words["reckoned"], 300)
        self.assertGreater(words["free"], 300)

    def test_without_lines_every_place_is_free(self):
        for many in range(1, 13):
            for place in range(many):
                self.assertEqual(self.check(Field(19), [], [False] * many, place), "free")
                known = [other != place for other in range(many)]
                self.assertEqual(self.check(Field(19), [], known, place), "free")

    def test_by_hand(self):
        field = Field(19)
        self.assertEqual(told_of(field, [[1, 1, 1]], [True, False, True], 1), ("reckoned", [1]))
        self.assertEqual(told_of(field, [[1, 2, 1]], [True, False, True], 1), ("reckoned", [9]))
        self.assertEqual(told_of(field, [[1, 1, 1]], [True, False, False], 1), ("free", [0, 1, 1]))
        self.assertEqual(told_of(field, [[1, 0]], [True, False], 1), ("free", [0, 1]))
        self.assertEqual(told_of(field, [[0]], [False], 0), ("free", [1]))
        self.assertEqual(told_of(field, [[7]], [False], 0), ("reckoned", [6]))
        self.assertEqual(told_of(field, [[1, 1], [0, 1]], [False, False], 0), ("reckoned", [1, 1]))

    def test_lines_that_hang_on_one_another(self):
        for rule in GOOD_RULES:
            field = Field(rule)
            one, two = [1, 2, 3, 4], [5, 6, 7, 8]
            sums = [first ^ second for first, second in zip(one, two)]
            twice = [product(rule, 2, symbol) for symbol in one]
            for lines in ([one, one], [one, twice], [one, two, sums], [sums, twice, two, one, one], [[0] * 4, one],
                          [[0] * 4] * 8):
                for known in itertools.product((False, True), repeat=4):
                    for place in range(4):
                        if not known[place]:
                            self.check(field, lines, list(known), place)

    def test_as_many_lines_as_are_allowed(self):
        field = Field(285)
        lines = [[field.power(2, at * number) for at in range(12)] for number in range(8)]
        for gaps in range(1, 13):
            known = [at >= gaps for at in range(12)]
            due = "reckoned" if gaps <= 8 else "free"
            self.assertEqual([self.check(field, lines, known, place) for place in range(gaps)], [due] * gaps)

    def test_against_all_lists_that_keep_the_lines(self):
        source = random.Random(21)
        field = Field(19)
        for _ in range(60):
            lines = drawn_lines(source, field.last, source.randint(0, 3), 3)
            keeping = [some for some in itertools.product(range(16), repeat=3)
                       if not any(line_sum(19, line, some) for line in lines)]
            for known in itertools.product((False, True), repeat=3):
                for place in [other for other in range(3) if not known[other]]:
                    # What is alike at the known places differs by a list that is 0 there.
                    free = any(some[place] for some in keeping
                               if not any(symbol for symbol, is_known in zip(some, known) if is_known))
                    self.assertEqual(self.check(field, lines, list(known), place), "free" if free else "reckoned")

    def test_one_and_two_lines_by_their_ranks(self):
        source = random.Random(22)
        for rule in GOOD_RULES:
            field = Field(rule)
            for _ in range(40):
                many = source.randint(1, 8)
                lines = drawn_lines(source, field.last, source.randint(1, 2), many)
                known = [source.random() < 0.6 for _ in range(many)]
                for place in range(many):
                    if not known[place]:
                        due = "reckoned" if fixed(rule, lines, known, place) else "free"
                        self.assertEqual(self.check(field, lines, known, place), due)

    def test_places_known_or_out_of_range_are_refused(self):
        lines = [[1, 2, 3], [4, 5, 6]]
        for known in itertools.product((False, True), repeat=3):
            for place in [-(10 ** 29), -3, -2, -1, 3, 4, 10 ** 29] + [at for at in range(3) if known[at]]:
                for some in (lines, []):
                    with self.assertRaises(NoPlace) as caught:
                        told_of(Field(19), some, list(known), place)
                    self.assertEqual(caught.exception.place, place)

    def test_each_answer_is_the_askers_own(self):
        lines = [[1, 1, 1], [1, 2, 3]]
        for known in ([False, False, True], [False, False, False]):
            told = told_of(Field(19), lines, known, 0)
            kept = list(told[1])
            told[1].clear()
            self.assertEqual(self.check(Field(19), lines, known, 0), told[0])
            self.assertEqual(told_of(Field(19), lines, known, 0)[1], kept)
        self.assertEqual(lines, [[1, 1, 1], [1, 2, 3]])


class PlainWeightsTest(unittest.TestCase):
    """Point 22."""

    def test_all(self):
        for data in range(1, 8):
            self.assertEqual(plain_weights(data, 1), [[1] * data])
        for data in range(1, 7):
            self.assertEqual(plain_weights(data, 2), [[1] * data, [1, 2, 3, 4, 5, 6][:data]])

    def test_each_list_is_new(self):
        first = plain_weights(3, 2)
        first[0][0] = 9
        first[1].clear()
        self.assertEqual(plain_weights(3, 2), [[1, 1, 1], [1, 2, 3]])


if __name__ == "__main__":
    unittest.main()
