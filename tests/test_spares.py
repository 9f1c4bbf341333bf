"""Points 52 to 56: a spare, step by step."""

import random
import unittest

from spareplank.errors import Gone, NoPlace, NoPower, Standing, WrongPlank
from spareplank.rows import Row
from spareplank.spares import run_spare, step_spare
from tests.reckoning import (WEIGHTS, befall, blocks_of, code_of, costs_of, fixed, is_fixed, lines_of, makes_by,
                             reading_due, row_of, state_of, wrong_in)

ONE = [[1, 1, 1]]
TWO = [[1, 1, 1], [1, 2, 3]]
PLAIN = ([[1]], ONE, [[1] * 7], [[1], [1]], TWO, [[1] * 6, [1, 2, 3, 4, 5, 6]])


def spared_row(source, weights, plank, stripes=5):
    """A drawn row of which a plank was lost and a spare put in, with drawn blocks on it; and its truth."""
    row = row_of(weights, stripes, 2, source.randint(-3, 3))
    truth = [source.randrange(256) for _ in range(row.shape.size)]
    row.put(0, truth)
    row.rack.lose(plank)
    row.rack.put_spare(plank, [source.choice((None, source.randrange(256))) for _ in range(stripes)])
    return row, truth


class SpareCase(unittest.TestCase):

    def refused(self, kind, fields, method, *given):
        with self.assertRaises(kind) as caught:
            method(*given)
        self.assertEqual(tuple(vars(caught.exception).values()), fields)

    def check_step(self, row, weights, truth, plank):
        """One step, held against the document; gives what it told."""
        rack, stripe = row.rack, row.rack.mark_of(plank)
        role = row.shape.role_of(stripe, plank)
        order = row.shape.order_of(stripe)
        blocks, costs = blocks_of(row, stripe), costs_of(row, stripe)
        self.assertIsNone(costs[role])
        before = len(rack.events())
        told = step_spare(row, plank)
        asked = reading_due(weights, blocks, costs, role)
        self.assertEqual(rack.events()[before:], [("look", order[one], stripe) for one in asked]
                         + [("lay", plank, stripe), ("mark", plank, stripe + 1)])
        known = [block is not None for block in blocks]
        self.assertIs(told, fixed(19, lines_of(weights), known, role))
        self.assertEqual(rack.peek(plank, stripe), makes_by(weights, truth)[stripe][role] if told else None)
        last = stripe + 1 == rack.stripes
        self.assertEqual((rack.kind_of(plank), rack.mark_of(plank)), ("whole", None) if last else ("spare", stripe + 1))
        return told


class StepTest(SpareCase):
    """Point 52."""

    def test_steps_by_any_weights(self):
        source = random.Random(52)
        told = []
        for weights in WEIGHTS:
            for gaps in (0, 1, 2, 3):
                plank = source.randrange(len(weights[0]) + len(weights))
                row, truth = spared_row(source, weights, plank)
                for _ in range(5):
                    befall_others(source, row, plank, gaps)
                    told.append(self.check_step(row, weights, truth, plank))
                    self.assertEqual(wrong_in(row, weights, truth), [])
        self.assertTrue(told.count(True) > 100 and told.count(False) > 30)

    def test_by_hand(self):
        row = row_of(ONE, 2, 1, 0)
        row.put(0, [1, 2, 3, 4, 5, 6])
        row.rack.lose(3)
        row.rack.put_spare(3, [99, 98])
        before = len(row.rack.events())
        self.assertIs(step_spare(row, 3), True)
        self.assertEqual(row.rack.events()[before:], [("look", 0, 0), ("look", 1, 0), ("look", 2, 0), ("lay", 3, 0),
                                                      ("mark", 3, 1)])
        self.assertEqual([row.rack.peek(3, 0), row.rack.peek(3, 1)], [0, 98])
        row.rack.spoil(1, 1)
        self.assertIs(step_spare(row, 3), False)
        self.assertEqual((row.rack.kind_of(3), row.rack.peek(3, 1)), ("whole", None))

    def test_at_the_planks_prices(self):
        row = row_of(TWO, 1, 1, 0)
        row.rack.lose(0)
        row.rack.put_spare(0)
        row.rack.make_slow(1, 5)
        before = len(row.rack.events())
        step_spare(row, 0)
        self.assertEqual(row.rack.events()[before:before + 3], [("look", 2, 0), ("look", 3, 0), ("look", 4, 0)])

    def test_another_spare_counts_below_its_mark(self):
        source = random.Random(53)
        row, truth = spared_row(source, TWO, 1)
        row.rack.lose(4)
        row.rack.put_spare(4, [7] * 5)
        for plank in (4, 4, 1, 4, 1, 1, 1, 4, 1, 4):
            self.assertTrue(self.check_step(row, TWO, truth, plank))
        self.assertEqual([row.rack.kind_of(plank) for plank in range(5)], ["whole"] * 5)
        self.assertEqual(wrong_in(row, TWO, truth), [])


def befall_others(source, row, plank, gaps):
    """Spoils a block of another plank now and then, so that a stripe comes to so many gaps at most."""
    stripe = source.randrange(row.rack.stripes)
    other = source.randrange(row.rack.planks)
    if other != plank and blocks_of(row, stripe).count(None) < gaps and row.rack.there(other, stripe):
        row.rack.spoil(other, stripe)
    if other != plank and row.rack.kind_of(other) == "whole":
        row.rack.make_slow(other, source.randint(2, 9))


class RefusalsTest(SpareCase):
    """Point 53."""

    def scene(self):
        row, truth = spared_row(random.Random(54), ONE, 2)
        row.rack.make_slow(1, 3)
        return row, truth

    def test_their_order(self):
        row, _ = self.scene()
        row.rack.lose(3)
        for plank in (0, 1, 3):
            self.refused(WrongPlank, (plank,), step_spare, row, plank)
        row.rack.note(1, 4, [])
        for plank in range(4):
            self.refused(Standing, (4,), step_spare, row, plank)
        row.rack.supply(0)
        self.refused(NoPower, (), row.rack.strike, 1)
        kept = state_of(row.rack), row.rack.events()
        for plank in range(4):
            self.refused(NoPower, (), step_spare, row, plank)
        for plank in (-(10 ** 29), -1, 4, 5, 10 ** 29):
            self.refused(NoPlace, (plank,), step_spare, row, plank)
        self.assertEqual((state_of(row.rack), row.rack.events()), kept)

    def test_a_fall_at_each_of_both_writes(self):
        for writes in (0, 1):
            row, truth = self.scene()
            step_spare(row, 2)
            held = row.rack.peek(2, 1)
            row.rack.supply(writes)
            self.refused(NoPower, (), step_spare, row, 2)
            self.assertEqual((row.rack.mark_of(2), row.rack.there(2, 1)), (1, False))
            role = row.shape.role_of(1, 2)
            self.assertEqual(row.rack.peek(2, 1), makes_by(ONE, truth)[1][role] if writes else held)
            self.refused(NoPower, (), step_spare, row, 2)
            row.rack.supply()
            self.assertEqual([row.get(at) for at in range(15)], truth)
            self.assertTrue(self.check_step(row, ONE, truth, 2))
            self.assertEqual(row.rack.mark_of(2), 2)


class RunTest(SpareCase):
    """Point 54."""

    def test_runs(self):
        for many in (1, 3, 4, 5, 6, 99, 10 ** 29):
            row, truth = spared_row(random.Random(55), ONE, 2)
            row.rack.spoil(0, 1)
            told = run_spare(row, 2, many)
            self.assertEqual((type(told), told), (list, [True, False, True, True, True][:many]))
            self.assertEqual(row.rack.mark_of(2), many if many < 5 else None)

    def test_no_steps(self):
        row, _ = spared_row(random.Random(56), ONE, 2)
        row.rack.note(0, 1, [])
        kept = state_of(row.rack), row.rack.events()
        for many in (0, -1, -(10 ** 29)):
            for plank in (2, 0, 99, -1, 10 ** 29):
                self.assertEqual(run_spare(row, plank, many), [])
        row.rack.supply(0)
        self.refused(NoPower, (), row.rack.strike, 0)
        self.assertEqual(run_spare(row, 2, 0), [])
        row.rack.supply()
        self.assertEqual((state_of(row.rack), row.rack.events()), kept)

    def test_refused_as_its_steps_are(self):
        row, truth = spared_row(random.Random(57), ONE, 2)
        for many in (1, 2, 10 ** 29):
            self.refused(WrongPlank, (0,), run_spare, row, 0, many)
            self.refused(NoPlace, (4,), run_spare, row, 4, many)
        row.rack.note(0, 3, [])
        self.refused(Standing, (3,), run_spare, row, 2, 5)
        row.rack.strike(0)
        row.rack.supply(5)
        self.refused(NoPower, (), run_spare, row, 2, 5)
        self.refused(NoPower, (), run_spare, row, 2, 5)
        self.assertEqual(row.rack.mark_of(2), 2)
        row.rack.supply()
        self.assertEqual(run_spare(row, 2, 5), [True] * 3)
        self.refused(WrongPlank, (2,), run_spare, row, 2, 1)
        self.assertEqual(wrong_in(row, ONE, truth), [])


class BetweenStepsTest(SpareCase):
    """Points 55 and 56."""

    def test_gets_puts_and_falls_between_steps(self):
        source = random.Random(58)
        for weights in PLAIN + WEIGHTS:
            for _ in range(3):
                self.one_run(source, weights, source.randrange(len(weights[0]) + len(weights)))

    def one_run(self, source, weights, plank):
        row, truth = spared_row(source, weights, plank)
        told = []
        while row.rack.kind_of(plank) == "spare":
            at = source.randrange(row.shape.size)
            if is_fixed(row, weights, at):
                self.assertEqual(row.get(at), truth[at])
            some = [source.randrange(256) for _ in range(source.randint(1, min(4, row.shape.size - at)))]
            truth = self.put_with_falls(source, row, weights, truth, at, some)
            row.rack.supply(source.choice((0, 1, 2, None)))
            try:
                told.append(step_spare(row, plank))
            except NoPower:
                self.assertEqual(row.rack.kind_of(plank), "spare")
            row.rack.supply()
            self.assertEqual(wrong_in(row, weights, truth), [])
        if all(told) and len(told) == row.rack.stripes:
            makes = makes_by(weights, truth)
            self.assertEqual([blocks_of(row, stripe) for stripe in range(row.rack.stripes)], makes)
        if weights in PLAIN:
            self.assertTrue(all(told))

    def put_with_falls(self, source, row, weights, truth, at, some):
        """A put that perhaps falls; gives the truth behind it."""
        fresh = truth[:at] + some + truth[at + len(some):]
        row.rack.supply(source.choice((None, 0, 3, 6, 9)))
        before = len(row.rack.events())
        try:
            row.put(at, some)
        except NoPower:
            noted = [event[2] for event in row.rack.events()[before:] if event[0] == "note"]
            fresh = [new if place // row.shape.data in noted else old
                     for place, (new, old) in enumerate(zip(fresh, truth))]
            row.rack.supply()
            row.up()
        except Gone:
            fresh = truth
        row.rack.supply()
        return fresh

    def test_as_if_never_lost(self):
        source = random.Random(59)
        for weights in PLAIN:
            row, truth = spared_row(source, weights, 0)
            twin = row_of(weights)
            twin = Row(code_of(weights), row.shape, twin.rack)
            twin.put(0, truth)
            for _ in range(5):
                self.assertTrue(step_spare(row, 0))
                at = source.randrange(row.shape.size)
                block = source.randrange(256)
                row.put(at, [block])
                twin.put(at, [block])
            self.assertEqual(state_of(row.rack), state_of(twin.rack))

    def test_beyond_the_mark_what_a_spare_holds_counts_for_nothing(self):
        row, truth = spared_row(random.Random(60), ONE, 1)
        run_spare(row, 1, 2)
        before = len(row.rack.events())
        self.assertEqual([row.get(at) for at in range(15)], truth)
        row.put(0, [9] * 15)
        looked = [event for event in row.rack.events()[before:] if event[1] == 1]
        self.assertTrue(looked)
        self.assertTrue(all(event[2] < 2 for event in looked if event[0] in ("look", "lay")))
        self.assertEqual([row.get(at) for at in range(15)], [9] * 15)
        run_spare(row, 1, 9)
        self.assertEqual(wrong_in(row, ONE, [9] * 15), [])

    def test_a_spare_that_is_lost_amid_its_steps(self):
        row, truth = spared_row(random.Random(61), ONE, 1)
        run_spare(row, 1, 3)
        row.rack.lose(1)
        self.refused(WrongPlank, (1,), step_spare, row, 1)
        row.rack.put_spare(1)
        self.assertEqual(row.rack.mark_of(1), 0)
        self.assertEqual(run_spare(row, 1, 9), [True] * 5)
        self.assertEqual([blocks_of(row, stripe) for stripe in range(5)], makes_by(ONE, truth))

    def test_fate_amid_the_steps(self):
        source = random.Random(62)
        for weights in PLAIN:
            for _ in range(4):
                row, truth = spared_row(source, weights, 0)
                for _ in range(12):
                    befall(source, row, len(weights))
                    for plank in range(row.rack.planks):
                        if row.rack.kind_of(plank) == "spare":
                            self.assertTrue(self.check_step(row, weights, truth, plank))
                    self.assertEqual([row.get(at) for at in range(row.shape.size)], truth)


if __name__ == "__main__":
    unittest.main()
