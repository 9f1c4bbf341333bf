"""Points 59 to 61: the walk, and mending a stripe."""

import random
import unittest

from spareplank.errors import NoPlace, NoPower, Standing
from spareplank.lines import plain_weights
from spareplank.papers import paper_of
from spareplank.verdicts import verdict_of
from spareplank.walks import mend_stripe, walk_through
from tests.reckoning import (WEIGHTS, befall, blocks_of, is_right, make_of, makes_by, row_of, state_of, wrong_in)

ONE = [[1, 1, 1]]
TWO = [[1, 1, 1], [1, 2, 3]]


def drawn_row(source, weights, stripes=4):
    row = row_of(weights, stripes, 2, source.randint(-3, 3))
    truth = [source.randrange(256) for _ in range(row.shape.size)]
    row.put(0, truth)
    return row, truth


def spread_lies(source, row, many):
    """Lets some blocks lie."""
    for _ in range(many):
        plank, stripe = source.randrange(row.rack.planks), source.randrange(row.rack.stripes)
        if row.rack.there(plank, stripe):
            row.rack.lie(plank, stripe, source.randrange(256))


def looks_of(row, stripe):
    """The looks at each plank that is there for a stripe, planks rising."""
    return [("look", plank, stripe) for plank in range(row.rack.planks) if row.rack.there(plank, stripe)]


class WalkCase(unittest.TestCase):

    def refused(self, kind, fields, method, *given):
        with self.assertRaises(kind) as caught:
            method(*given)
        self.assertEqual(tuple(vars(caught.exception).values()), fields)


class WalkTest(WalkCase):
    """Point 59."""

    def check_walk(self, row, weights):
        kept, before = state_of(row.rack), len(row.rack.events())
        told = walk_through(row)
        self.assertEqual(state_of(row.rack), kept)
        due = [look for stripe in range(row.rack.stripes) for look in looks_of(row, stripe)]
        self.assertEqual(row.rack.events()[before:], due)
        self.assertEqual((type(told), len(told)), (list, row.rack.stripes))
        for stripe, one in enumerate(told):
            self.check_stripe(row, weights, stripe, one)
        return told

    def check_stripe(self, row, weights, stripe, told):
        seen = blocks_of(row, stripe)
        due = verdict_of(row.code, seen)
        self.assertEqual((type(told), told[0]), (tuple, due[0]))
        if told[0] == "right":
            self.assertEqual(told, ("right", due[2]))
        elif told[0] == "lies":
            self.assertEqual(told, ("lies", row.shape.plank_of(stripe, due[1]), due[2][due[1]]))
        else:
            counts = []
            for make in told[1:]:
                self.assertTrue(is_right(19, 2, weights, make))
                counts.append(len([role for role, block in enumerate(seen) if block not in (None, make[role])]))
            self.assertEqual((counts[0], told[1] != told[2], len(told)), (counts[1], True, 3))

    def test_drawn_rows(self):
        source = random.Random(59)
        words = []
        for weights in WEIGHTS:
            for number in range(12):
                row, _ = drawn_row(source, weights)
                befall(source, row, number % 4)
                spread_lies(source, row, number % 3)
                words.extend(told[0] for told in self.check_walk(row, weights))
        self.assertTrue(all(words.count(word) > 20 for word in ("right", "lies", "open")))

    def test_by_hand(self):
        row = row_of(TWO, 4, 1, 1)
        row.put(0, [1, 2, 3, 4, 5, 6, 7, 8, 9, 10, 11, 12])
        row.rack.lie(row.shape.plank_of(1, 2), 1, 77)
        row.rack.spoil(row.shape.plank_of(2, 0), 2)
        row.rack.spoil(row.shape.plank_of(3, 0), 3)
        row.rack.lie(row.shape.plank_of(3, 1), 3, 77)
        told = self.check_walk(row, TWO)
        self.assertEqual(told[:3], [("right", 2), ("lies", row.shape.plank_of(1, 2), 6), ("right", 1)])
        self.assertEqual(told[3][0], "open")

    def test_a_spare_is_looked_at_below_its_mark(self):
        row, truth = drawn_row(random.Random(60), TWO)
        row.rack.lose(1)
        row.rack.put_spare(1, [9] * 4)
        row.rack.lay(1, 0, makes_by(TWO, truth)[0][row.shape.role_of(0, 1)])
        row.rack.move_mark(1)
        self.assertEqual(self.check_walk(row, TWO), [("right", 2), ("right", 1), ("right", 1), ("right", 1)])

    def test_not_ready(self):
        row, _ = drawn_row(random.Random(61), TWO)
        row.rack.note(1, 3, [])
        before = len(row.rack.events())
        self.refused(Standing, (3,), walk_through, row)
        row.rack.supply(0)
        self.refused(NoPower, (), row.rack.strike, 0)
        self.refused(NoPower, (), walk_through, row)
        self.assertEqual(len(row.rack.events()), before)

    def test_with_no_write_left(self):
        row, _ = drawn_row(random.Random(62), TWO)
        row.rack.supply(0)
        self.assertEqual(walk_through(row), [("right", 2)] * 4)
        self.assertTrue(row.rack.has_power())

    def test_the_one_that_lies_is_named(self):
        source = random.Random(63)
        for data in range(1, 7):
            weights = plain_weights(data, 2)
            row, truth = drawn_row(source, weights)
            for stripe in range(4):
                for plank in range(row.rack.planks):
                    block = row.rack.peek(plank, stripe)
                    row.rack.lie(plank, stripe, block ^ source.randrange(1, 256))
                    due = [("right", 2)] * 4
                    due[stripe] = ("lies", plank, block)
                    self.assertEqual(walk_through(row), due)
                    self.assertEqual(mend_stripe(row, stripe), [plank])
                    self.assertEqual(wrong_in(row, weights, truth), [])


class MendTest(WalkCase):
    """Points 60 and 61."""

    def due_pairs(self, row, stripe):
        """The pairs of a mending, None where the stripe is open."""
        seen = blocks_of(row, stripe)
        told = verdict_of(row.code, seen)
        if told[0] == "open":
            return None
        make = told[1] if told[0] == "right" else told[2]
        order = row.shape.order_of(stripe)
        return sorted((order[role], make[role]) for role, block in enumerate(seen)
                      if row.rack.there(order[role], stripe) and block != make[role])

    def writes_of(self, stripe, pairs):
        if not pairs:
            return []
        return [("note", 0, stripe)] + [("lay", plank, stripe) for plank, _ in pairs] + [("strike", 0)]

    def check_mend(self, row, weights, stripe):
        kept, before = state_of(row.rack), len(row.rack.events())
        pairs = self.due_pairs(row, stripe)
        told = mend_stripe(row, stripe)
        self.assertEqual(told, None if pairs is None else [plank for plank, _ in pairs])
        self.assertEqual(row.rack.events()[before:], looks_of(row, stripe) + self.writes_of(stripe, pairs))
        if pairs:
            for plank, block in pairs:
                self.assertEqual(row.rack.peek(plank, stripe), block)
            self.assertEqual(mend_stripe(row, stripe), [])
        else:
            self.assertEqual(state_of(row.rack), kept)
        return told

    def test_drawn_rows(self):
        source = random.Random(64)
        answers = []
        for weights in WEIGHTS:
            for number in range(12):
                row, _ = drawn_row(source, weights)
                befall(source, row, number % 4)
                spread_lies(source, row, number % 3)
                for stripe in range(4):
                    told = self.check_mend(row, weights, stripe)
                    answers.append("open" if told is None else "some" if told else "none")
        self.assertTrue(all(answers.count(answer) > 20 for answer in ("open", "some", "none")))

    def test_behind_a_mending_all_holds_what_the_make_has(self):
        source = random.Random(65)
        for weights in WEIGHTS:
            row, truth = drawn_row(source, weights)
            befall(source, row, len(weights))
            befall(source, row, len(weights))
            for stripe in range(4):
                told = mend_stripe(row, stripe)
                if told is not None:
                    make = makes_by(weights, truth)[stripe]
                    order = row.shape.order_of(stripe)
                    for role, plank in enumerate(order):
                        if row.rack.there(plank, stripe):
                            self.assertEqual(row.rack.peek(plank, stripe), make[role])

    def test_by_hand(self):
        row = row_of(TWO, 2, 2, 0)
        row.put(0, [1, 2, 3, 4, 5, 6])
        make = make_of(19, 2, TWO, [1, 2, 3])
        row.rack.spoil(3, 0)
        row.rack.spoil(0, 0)
        before = len(row.rack.events())
        self.assertEqual(mend_stripe(row, 0), [0, 3])
        self.assertEqual(row.rack.events()[before:], [("look", plank, 0) for plank in range(5)] + [
            ("note", 0, 0), ("lay", 0, 0), ("lay", 3, 0), ("strike", 0)])
        self.assertEqual([row.rack.peek(plank, 0) for plank in range(5)], make)
        self.assertEqual(mend_stripe(row, 0), [])
        row.rack.spoil(0, 1)
        row.rack.lie(1, 1, 99)
        before = len(row.rack.events())
        self.assertIsNone(mend_stripe(row, 1))
        self.assertEqual(row.rack.events()[before:], [("look", plank, 1) for plank in range(5)])
        row.rack.spoil(1, 1)
        self.assertEqual(mend_stripe(row, 1), [0, 1])
        self.assertEqual([row.get(at) for at in range(6)], [1, 2, 3, 4, 5, 6])

    def test_planks_that_are_not_there_are_passed_over(self):
        row = row_of(TWO, 2, 2, 0)
        row.put(0, [1, 2, 3, 4, 5, 6])
        row.rack.lose(2)
        row.rack.put_spare(2, [9, 9])
        row.rack.spoil(4, 1)
        self.assertEqual(mend_stripe(row, 1), [4])
        self.assertEqual(mend_stripe(row, 0), [])
        self.assertEqual([row.rack.peek(2, stripe) for stripe in (0, 1)], [9, 9])

    def test_which_refusal_comes_first(self):
        row, _ = drawn_row(random.Random(66), TWO)
        row.rack.note(1, 3, [])
        for method in (mend_stripe, paper_of):
            row.rack.supply()
            kept = state_of(row.rack), row.rack.events()
            for stripe in (-(10 ** 29), -1, 4, 10 ** 29):
                self.refused(NoPlace, (stripe,), method, row, stripe)
            self.refused(Standing, (3,), method, row, 0)
            self.assertEqual((state_of(row.rack), row.rack.events()), kept)
            row.rack.supply(0)
            self.refused(NoPower, (), row.rack.strike, 0)
            kept = state_of(row.rack), row.rack.events()
            self.refused(NoPlace, (4,), method, row, 4)
            self.refused(NoPower, (), method, row, 0)
            self.assertEqual((state_of(row.rack), row.rack.events()), kept)

    def test_a_fall_at_every_write(self):
        for writes in range(5):
            row = row_of(TWO, 2, 2, 1)
            row.put(0, [1, 2, 3, 4, 5, 6])
            row.rack.spoil(3, 1)
            row.rack.spoil(0, 1)
            before = len(row.rack.events())
            row.rack.supply(writes)
            due = self.writes_of(1, [(0, None), (3, None)])
            if writes < 4:
                self.refused(NoPower, (), mend_stripe, row, 1)
            else:
                self.assertEqual(mend_stripe(row, 1), [0, 3])
            self.assertEqual([event for event in row.rack.events()[before:] if event[0] != "look"], due[:writes])
            self.assertEqual(row.standing(), [1] if 0 < writes < 4 else [])
            row.rack.supply()
            laid = [[0, 3], [0, 3], [3], [], None][writes]
            self.assertEqual(row.up(), [(1, laid)] if 0 < writes < 4 else [])
            if writes == 0:
                mend_stripe(row, 1)
            self.assertEqual(wrong_in(row, TWO, [1, 2, 3, 4, 5, 6]), [])
            self.assertFalse(None in blocks_of(row, 1))

    def test_what_was_last_laid_comes_back(self):
        source = random.Random(67)
        for data in range(1, 7):
            weights = plain_weights(data, 2)
            row, truth = drawn_row(source, weights)
            for _ in range(10):
                at, block = source.randrange(row.shape.size), source.randrange(256)
                row.put(at, [block])
                truth[at] = block
                plank, stripe = source.randrange(row.rack.planks), source.randrange(4)
                row.rack.lie(plank, stripe, source.randrange(256))
                self.assertIn(mend_stripe(row, stripe), ([], [plank]))
                self.assertEqual(wrong_in(row, weights, truth), [])
                self.assertEqual([row.get(at) for at in range(row.shape.size)], truth)


if __name__ == "__main__":
    unittest.main()
