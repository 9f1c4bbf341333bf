"""Points 44 to 51: the great row, notes, falls and coming up."""

import random
import unittest

from spareplank.asking import Asking
from spareplank.errors import Gone, NoBlock, NoPlace, NoPower, NoShape, Standing
from spareplank.racks import Rack
from spareplank.rows import Row
from spareplank.shapes import Shape, even_turns
from tests.reckoning import (WEIGHTS, befall, blocks_of, code_of, costs_of, is_fixed, make_of, makes_by, reading_due,
                             row_of, state_of, writing_due, wrong_in)

ONE = [[1, 1, 1]]
TWO = [[1, 1, 1], [1, 2, 3]]


def drawn_row(source, weights, stripes=5, slots=2):
    """A row with drawn blocks in it, and the plain list of these."""
    row = row_of(weights, stripes, slots, source.randint(-3, 3))
    truth = [source.randrange(256) for _ in range(row.shape.size)]
    row.put(0, truth)
    return row, truth


def news_of(row, at, some):
    """The new blocks of a put, by stripe and role."""
    news = {}
    for more, block in enumerate(some):
        stripe, role = divmod(at + more, row.shape.data)
        news.setdefault(stripe, {})[role] = block
    return news


def due_of_put(row, weights, truth, at, some):
    """The events of a put and what it gives, by points 46 to 49; or the stripe that is refused."""
    shape, slots = row.shape, row.rack.slots
    after = truth[:at] + some + truth[at + len(some):]
    looks, plan = [], []
    for stripe, news in news_of(row, at, some).items():
        asked, laid = writing_due(weights, blocks_of(row, stripe), costs_of(row, stripe), news)
        order = shape.order_of(stripe)
        looks.extend(("look", order[role], stripe) for role in asked)
        if laid is None:
            return looks, (stripe, order[min(news)])
        make = makes_by(weights, after)[stripe]
        plan.append((stripe, sorted((order[role], make[role]) for role in laid)))
    events = list(looks)
    for first in range(0, len(plan), slots):
        group = plan[first:first + slots]
        events.extend(("note", slot, stripe) for slot, (stripe, _) in enumerate(group))
        events.extend(("lay", plank, stripe) for stripe, pairs in group for plank, _ in pairs)
        events.extend(("strike", slot) for slot in range(len(group)))
    return events, plan


class RowCase(unittest.TestCase):

    def refused(self, kind, fields, method, *given):
        with self.assertRaises(kind) as caught:
            method(*given)
        self.assertEqual(tuple(vars(caught.exception).values()), fields)

    def dark(self, rack):
        """Lets the power go."""
        rack.supply(0)
        with self.assertRaises(NoPower):
            rack.strike(0)

    def written(self, rack, before):
        """The single writes behind so many events."""
        return [event for event in rack.events()[before:] if event[0] != "look"]


class TogetherTest(RowCase):
    """Point 44."""

    def test_what_goes_together(self):
        code, shape, rack = code_of(TWO), Shape(3, 5, 4, even_turns(5, 1)), Rack(5, 4, 1)
        row = Row(code, shape, rack)
        self.assertIs(row.code, code)
        self.assertIs(row.shape, shape)
        self.assertIs(row.rack, rack)

    def test_what_does_not(self):
        code, shape, rack = code_of(TWO), Shape(3, 5, 4, even_turns(5, 1)), Rack(5, 4, 1)
        for other in (code_of(ONE), code_of([[1] * 4]), code_of([[1] * 5]), code_of([[1] * 4] * 2),
                      code_of([[1, 1], [1, 2]])):
            self.refused(NoShape, (), Row, other, shape, rack)
        for other in (Shape(4, 5, 4, even_turns(5, 1)), Shape(3, 4, 4, even_turns(4, 1)),
                      Shape(4, 6, 4, even_turns(6, 1)), Shape(3, 5, 3, even_turns(5, 1)),
                      Shape(3, 5, 5, even_turns(5, 1))):
            self.refused(NoShape, (), Row, code, other, rack)
        for other in (Rack(4, 4, 1), Rack(6, 4, 1), Rack(5, 3, 1), Rack(5, 5, 1)):
            self.refused(NoShape, (), Row, code, shape, other)

    def test_a_new_rack_holds_nought(self):
        for weights in WEIGHTS:
            row = row_of(weights)
            self.assertEqual([row.get(at) for at in range(row.shape.size)], [0] * row.shape.size)
            self.assertEqual(row.standing(), [])

    def test_two_rows_on_one_rack_are_as_one(self):
        source = random.Random(44)
        row, truth = drawn_row(source, TWO)
        other = Row(code_of(TWO), row.shape, row.rack)
        for at in range(row.shape.size):
            block = source.randrange(256)
            (row, other)[at % 2].put(at, [block])
            truth[at] = block
            self.assertEqual([row.get(at), other.get(at)], [block, block])
        row.rack.note(1, 3, [])
        self.assertEqual((row.standing(), other.standing()), ([3], [3]))
        self.assertEqual(other.up(), [(3, [])])
        self.assertEqual(row.standing(), [])

    def test_nothing_is_done_to_what_is_handed_in(self):
        row, truth = drawn_row(random.Random(45), TWO)
        some = [1, 2, 3, 4, 5]
        row.put(4, some)
        self.assertEqual(some, [1, 2, 3, 4, 5])
        some[0] = 99
        self.assertEqual(row.get(4), 1)

    def test_what_was_noted_by_others_counts(self):
        row = row_of(ONE)
        row.rack.note(1, 4, [(0, 7)])
        self.refused(Standing, (4,), row.get, 0)
        row.rack.strike(1)
        self.assertEqual(row.get(0), 0)

    def test_asking(self):
        row, truth = drawn_row(random.Random(46), TWO)
        row.rack.make_slow(1, 6)
        row.rack.lose(3)
        before = len(row.rack.events())
        for stripe in range(5):
            asking = row.asking(stripe)
            self.assertIsInstance(asking, Asking)
            self.assertIs(asking.code, row.code)
            self.assertEqual(asking.costs, costs_of(row, stripe))
            self.assertEqual(asking.asked, [])
        self.assertEqual(len(row.rack.events()), before)
        asking = row.asking(2)
        plank = row.shape.plank_of(2, 1)
        self.assertEqual(asking.take(1), truth[7])
        self.assertEqual(row.rack.events()[before:], [("look", plank, 2)])


class ReadyTest(RowCase):
    """Point 45."""

    def test_ready(self):
        row = row_of(ONE)
        self.assertIsNone(row.ready())
        row.rack.note(1, 3, [])
        self.refused(Standing, (3,), row.ready)
        row.rack.note(0, 4, [])
        self.refused(Standing, (4,), row.ready)
        self.dark(row.rack)
        self.refused(NoPower, (), row.ready)
        row.rack.supply(0)
        self.refused(Standing, (4,), row.ready)

    def test_which_refusal_comes_first(self):
        row = row_of(ONE)
        row.rack.note(0, 2, [])
        kept = state_of(row.rack), row.rack.events()
        self.refused(NoPlace, (15,), row.get, 15)
        self.refused(NoPlace, (15,), row.put, 15, [1])
        self.refused(NoBlock, (256,), row.put, 0, [256])
        self.refused(Standing, (2,), row.get, 0)
        self.refused(Standing, (2,), row.put, 0, [1])
        self.assertEqual((state_of(row.rack), row.rack.events()), kept)
        self.dark(row.rack)
        kept = state_of(row.rack), row.rack.events()
        self.refused(NoPlace, (-1,), row.get, -1)
        self.refused(NoPlace, (-1,), row.put, -1, [1])
        self.refused(NoBlock, (-1,), row.put, 0, [-1])
        self.refused(NoPower, (), row.get, 0)
        self.refused(NoPower, (), row.put, 0, [1])
        self.assertEqual((state_of(row.rack), row.rack.events()), kept)

    def test_reading_with_no_write_left(self):
        row = row_of(ONE)
        row.rack.supply(0)
        self.assertEqual(row.get(0), 0)
        self.assertTrue(row.rack.has_power())


class GetTest(RowCase):
    """Point 46."""

    def test_places(self):
        row = row_of(TWO)
        for at in (-(10 ** 29), -1, 15, 16, 10 ** 29):
            self.refused(NoPlace, (at,), row.get, at)
        self.assertEqual(row.rack.events(), [])

    def test_looks_and_blocks(self):
        source = random.Random(47)
        for weights in WEIGHTS:
            for gaps in (0, 1, 2, 3):
                row, truth = drawn_row(source, weights)
                befall(source, row, gaps)
                befall(source, row, gaps)
                for at in range(row.shape.size):
                    self.check_get(row, weights, truth, at)

    def check_get(self, row, weights, truth, at):
        stripe, role = divmod(at, row.shape.data)
        before = len(row.rack.events())
        kept = state_of(row.rack)
        order = row.shape.order_of(stripe)
        if is_fixed(row, weights, at):
            self.assertEqual(row.get(at), truth[at])
        else:
            self.refused(Gone, (stripe, order[role]), row.get, at)
        asked = reading_due(weights, blocks_of(row, stripe), costs_of(row, stripe), role)
        self.assertEqual(row.rack.events()[before:], [("look", order[one], stripe) for one in asked])
        self.assertEqual(state_of(row.rack), kept)

    def test_a_spare_counts_below_its_mark_alone(self):
        row, truth = drawn_row(random.Random(48), ONE)
        row.rack.lose(0)
        row.rack.put_spare(0, [77] * 5)
        self.assertEqual([row.get(at) for at in range(15)], truth)
        row.rack.lay(0, 0, makes_by(ONE, truth)[0][row.shape.role_of(0, 0)])
        row.rack.move_mark(0)
        self.assertEqual([row.get(at) for at in range(15)], truth)
        before = len(row.rack.events())
        row.get(row.shape.number_of(0, 0))
        self.assertEqual(row.rack.events()[before:], [("look", row.shape.plank_of(0, 0), 0)])


class PutTest(RowCase):
    """Points 47 to 49."""

    def test_refusals_of_places(self):
        row, truth = drawn_row(random.Random(49), TWO)
        kept = state_of(row.rack), row.rack.events()
        for at in (-(10 ** 29), -1, 15, 16, 10 ** 29):
            for some in ([], [1], [256], [1] * 15, [1] * 300):
                self.refused(NoPlace, (at,), row.put, at, some)
        for at in (0, 7, 14):
            self.refused(NoPlace, (at,), row.put, at, [])
            self.refused(NoPlace, (at,), row.put, at, [1] * (16 - at))
            self.refused(NoPlace, (at,), row.put, at, [-1] * (16 - at))
        self.assertEqual((state_of(row.rack), row.rack.events()), kept)
        row.put(7, [1] * 8)
        self.assertEqual([row.get(at) for at in range(15)], truth[:7] + [1] * 8)

    def test_refusals_of_blocks(self):
        row, truth = drawn_row(random.Random(50), TWO)
        kept = state_of(row.rack), row.rack.events()
        for bad in (256, 257, -1, 10 ** 39, -(10 ** 39)):
            self.refused(NoBlock, (bad,), row.put, 0, [bad])
            self.refused(NoBlock, (bad,), row.put, 3, [0, 255, bad, 1000, -5])
        self.assertEqual((state_of(row.rack), row.rack.events()), kept)

    def test_events_and_what_is_given(self):
        source = random.Random(51)
        for weights in WEIGHTS:
            for gaps in (0, 1, 2, 3):
                row, truth = drawn_row(source, weights, source.randint(1, 6), source.randint(1, 4))
                for _ in range(4):
                    befall(source, row, gaps)
                    at = source.randrange(row.shape.size)
                    some = [source.randrange(256) for _ in range(source.randint(1, row.shape.size - at))]
                    truth = self.check_put(row, weights, truth, at, some)

    def check_put(self, row, weights, truth, at, some):
        """Puts, holds all against the document, and gives the truth behind it."""
        before, kept = len(row.rack.events()), state_of(row.rack)
        events, due = due_of_put(row, weights, truth, at, some)
        after = truth[:at] + some + truth[at + len(some):]
        if isinstance(due, tuple):
            self.refused(Gone, due, row.put, at, some)
            self.assertEqual(state_of(row.rack), kept)
            after = truth
        else:
            told = row.put(at, some)
            self.assertEqual(told, due)
            self.assertTrue(all(type(one) is tuple and type(one[1]) is list for one in told))
        self.assertEqual(row.rack.events()[before:], events)
        self.assertEqual(wrong_in(row, weights, after), [])
        for place in range(row.shape.size):
            if is_fixed(row, weights, place):
                self.assertEqual(row.get(place), after[place])
        return after

    def test_by_hand(self):
        row = row_of(ONE, 3, 2, 0)
        told = row.put(1, [5, 6, 7])
        self.assertEqual(told, [(0, [(1, 5), (2, 6), (3, 3)]), (1, [(0, 7), (3, 7)])])
        self.assertEqual(row.rack.events(), [
            ("look", 0, 0), ("look", 1, 1), ("look", 2, 1), ("note", 0, 0), ("note", 1, 1), ("lay", 1, 0),
            ("lay", 2, 0), ("lay", 3, 0), ("lay", 0, 1), ("lay", 3, 1), ("strike", 0), ("strike", 1)])
        told[0][1].clear()
        told.clear()
        self.assertEqual([row.get(at) for at in range(9)], [0, 5, 6, 7, 0, 0, 0, 0, 0])

    def test_groups_of_as_many_as_there_are_slots(self):
        for slots in range(1, 9):
            row = row_of([[1]], 8, slots, 0)
            row.put(0, list(range(1, 9)))
            writes = self.written(row.rack, 0)
            due = []
            for first in range(0, 8, slots):
                stripes = range(first, min(first + slots, 8))
                due.extend(("note", slot, stripe) for slot, stripe in enumerate(stripes))
                due.extend(("lay", plank, stripe) for stripe in stripes for plank in (0, 1))
                due.extend(("strike", slot) for slot, _ in enumerate(stripes))
            self.assertEqual(writes, due)

    def test_a_put_that_is_gone_writes_nothing(self):
        row, truth = drawn_row(random.Random(52), ONE, 5, 2)
        row.rack.spoil(row.shape.plank_of(2, 0), 2)
        row.rack.spoil(row.shape.plank_of(2, 1), 2)
        kept, before = state_of(row.rack), len(row.rack.events())
        self.refused(Gone, (2, row.shape.plank_of(2, 1)), row.put, 7, [1])
        self.refused(Gone, (2, row.shape.plank_of(2, 0)), row.put, 4, [1, 2, 3])
        self.assertEqual((state_of(row.rack), self.written(row.rack, before)), (kept, []))
        self.assertIn(("look", row.shape.plank_of(1, 0), 1), row.rack.events()[before:])
        # A whole stripe that is there may be written whatever it held.
        row.put(6, [7, 8, 9])
        self.assertEqual([row.get(at) for at in range(15)], truth[:6] + [7, 8, 9] + truth[9:])

    def test_great_blocks(self):
        code = code_of([[1] * 6, [1, 2, 3, 4, 5, 6]], 285, 16)
        row = Row(code, Shape(6, 8, 32, even_turns(8, 3)), Rack(8, 32, 8))
        source = random.Random(53)
        truth = [source.randrange(2 ** 128) for _ in range(192)]
        row.put(0, truth)
        row.rack.lose(2)
        row.rack.lose(5)
        row.put(17, [2 ** 128 - 1, 0, 1])
        truth[17:20] = [2 ** 128 - 1, 0, 1]
        self.assertEqual([row.get(at) for at in range(192)], truth)
        self.refused(NoBlock, (2 ** 128,), row.put, 0, [2 ** 128])


class UpTest(RowCase):
    """Point 50."""

    def test_without_notes(self):
        row = row_of(ONE)
        self.assertEqual((row.up(), row.standing(), row.rack.events()), ([], [], []))
        row.rack.supply(0)
        self.assertEqual(row.up(), [])
        self.dark(row.rack)
        self.refused(NoPower, (), row.up)
        self.assertEqual(row.standing(), [])

    def test_notes_are_finished(self):
        row = row_of(ONE, 5, 4)
        row.rack.lie(1, 3, 9)
        row.rack.spoil(2, 3)
        row.rack.lose(3)
        row.rack.note(3, 0, [(0, 1)])
        row.rack.note(1, 3, [(2, 5), (1, 9), (3, 6), (0, 4), (0, 0)])
        before = len(row.rack.events())
        self.assertEqual(row.standing(), [3, 0])
        self.assertEqual(row.up(), [(3, [2, 0, 0]), (0, [0])])
        self.assertEqual(row.rack.events()[before:], [
            ("look", 2, 3), ("lay", 2, 3), ("look", 1, 3), ("look", 0, 3), ("lay", 0, 3), ("look", 0, 3),
            ("lay", 0, 3), ("strike", 1), ("look", 0, 0), ("lay", 0, 0), ("strike", 3)])
        self.assertEqual(([row.rack.peek(plank, 3) for plank in range(4)], row.rack.peek(0, 0)), ([0, 9, 5, None], 1))
        self.assertEqual(row.rack.intents(), [])

    def test_a_spare_beyond_its_mark_is_passed_over(self):
        row = row_of(ONE, 5, 4)
        row.rack.lose(0)
        row.rack.put_spare(0, [3] * 5)
        row.rack.move_mark(0)
        row.rack.note(0, 0, [(0, 8)])
        row.rack.note(1, 1, [(0, 8)])
        self.assertEqual(row.up(), [(0, [0]), (1, [])])
        self.assertEqual([row.rack.peek(0, stripe) for stripe in range(5)], [8, 3, 3, 3, 3])

    def test_a_note_with_nothing_to_lay(self):
        row = row_of(ONE, 5, 4)
        row.rack.note(2, 4, [(0, 0), (1, 0)])
        self.assertEqual(row.up(), [(4, [])])
        self.assertEqual(row.rack.events(), [("note", 2, 4), ("look", 0, 4), ("look", 1, 4), ("strike", 2)])

    def test_a_pair_without_a_block(self):
        row = row_of(ONE, 5, 4)
        row.rack.note(0, 1, [(0, None), (1, None)])
        row.rack.spoil(1, 1)
        self.assertEqual(row.up(), [(1, [0])])
        self.assertIsNone(row.rack.peek(0, 1))

    def test_lists_given_are_new(self):
        row = row_of(ONE, 5, 4)
        row.rack.note(0, 1, [(0, 5)])
        row.standing().clear()
        self.assertEqual(row.standing(), [1])
        told = row.up()
        told[0][1].clear()
        self.assertEqual((row.rack.peek(0, 1), row.up()), (5, []))


class FallTest(RowCase):
    """Points 48, 50 and 51: a fall at every single write of a put and of a coming up."""

    def scene(self, seed, weights):
        """A row with gaps and a put for it: the same ones for a seed."""
        source = random.Random(seed)
        row, truth = drawn_row(source, weights, source.randint(2, 5), source.randint(1, 3))
        befall(source, row, len(weights))
        if source.random() < 0.5:
            befall(source, row, len(weights))
        many = min(row.shape.size, 2 * row.shape.data + 1)
        at = source.randint(0, row.shape.size - many)
        return row, truth, at, [source.randrange(256) for _ in range(many)]

    def mixed(self, row, truth, at, some, noted):
        """The truth with the new blocks in the stripes that were noted, the old ones in all others."""
        return [some[place - at] if at <= place < at + len(some) and place // row.shape.data in noted else block
                for place, block in enumerate(truth)]

    def fall(self, seed, weights, writes):
        """A put amid which power goes behind so many single writes; what was noted, and the row."""
        row, truth, at, some = self.scene(seed, weights)
        full = due_of_put(row, weights, truth, at, some)[0]
        due = [event for event in full if event[0] != "look"]
        before = len(row.rack.events())
        row.rack.supply(writes)
        self.refused(NoPower, (), row.put, at, some)
        self.assertEqual(self.written(row.rack, before), due[:writes])
        self.assertFalse(row.rack.has_power())
        self.refused(NoPower, (), row.get, 0)
        self.refused(NoPower, (), row.up)
        noted = [event[2] for event in due[:writes] if event[0] == "note"]
        struck = len([event for event in due[:writes] if event[0] == "strike"])
        self.assertEqual(row.standing(), noted[struck:])
        return row, self.mixed(row, truth, at, some, noted)

    def finish(self, row, weights, due):
        row.rack.supply()
        if row.standing():
            self.refused(Standing, (row.standing()[0],), row.get, 0)
            self.refused(Standing, (row.standing()[0],), row.put, 0, [0])
        stood = row.standing()
        told = row.up()
        self.assertEqual([stripe for stripe, _ in told], stood)
        self.check_after(row, weights, due)

    def check_after(self, row, weights, due):
        self.assertEqual(row.rack.intents(), [])
        self.assertEqual(wrong_in(row, weights, due), [])
        for at in range(row.shape.size):
            if is_fixed(row, weights, at):
                self.assertEqual(row.get(at), due[at])

    def writes_of(self, seed, weights):
        """How many single writes the put does, None where it is refused."""
        row, truth, at, some = self.scene(seed, weights)
        events, due = due_of_put(row, weights, truth, at, some)
        return None if isinstance(due, tuple) else len([event for event in events if event[0] != "look"])

    def each_fall(self, seeds):
        """Falls at every single write, of rows by all weights."""
        count = 0
        for seed in seeds:
            for weights in WEIGHTS:
                for writes in range(self.writes_of(seed, weights) or 0):
                    count += 1
                    yield seed, weights, writes
        self.assertGreater(count, 150)

    def test_a_fall_at_every_write_of_a_put(self):
        for seed, weights, writes in self.each_fall(range(3)):
            row, due = self.fall(seed, weights, writes)
            self.finish(row, weights, due)

    def test_with_just_enough_power_nothing_falls(self):
        for weights in WEIGHTS:
            writes = self.writes_of(7, weights)
            if writes is not None:
                row, truth, at, some = self.scene(7, weights)
                row.rack.supply(writes)
                row.put(at, some)
                self.assertTrue(row.rack.has_power())
                self.check_after(row, weights, truth[:at] + some + truth[at + len(some):])

    def test_a_fall_at_every_write_of_a_coming_up(self):
        for seed, weights, writes in self.each_fall((11,)):
            more = 0
            while True:
                row, due = self.fall(seed, weights, writes)
                row.rack.supply(more)
                try:
                    row.up()
                except NoPower:
                    self.finish(row, weights, due)
                else:
                    self.check_after(row, weights, due)
                    break
                more += 1

    def test_fate_between_the_fall_and_the_coming_up(self):
        source = random.Random(54)
        for seed, weights, writes in self.each_fall((12, 13)):
            row, due = self.fall(seed, weights, writes)
            for _ in range(2):
                befall(source, row, 2)
                row.rack.supply(source.randrange(3))
                try:
                    row.up()
                except NoPower:
                    pass
            befall(source, row, 3)
            self.finish(row, weights, due)

    def test_the_put_again_behind_the_coming_up(self):
        for seed, weights, writes in self.each_fall((14,)):
            row, truth, at, some = self.scene(seed, weights)
            row.rack.supply(writes)
            self.refused(NoPower, (), row.put, at, some)
            row.rack.supply()
            row.up()
            row.put(at, some)
            self.check_after(row, weights, truth[:at] + some + truth[at + len(some):])

    def test_by_hand(self):
        row = row_of(ONE, 3, 2, 0)
        row.rack.supply(4)
        self.refused(NoPower, (), row.put, 0, [1, 2, 3, 4, 5, 6, 7, 8, 9])
        self.assertEqual(row.rack.events(), [("note", 0, 0), ("note", 1, 1), ("lay", 0, 0), ("lay", 1, 0)])
        self.assertEqual(row.rack.intents(), [(0, 0, [(0, 1), (1, 2), (2, 3), (3, 0)]),
                                              (1, 1, [(0, 4), (1, 5), (2, 6), (3, 7)])])
        row.rack.supply()
        self.assertEqual(row.up(), [(0, [2]), (1, [0, 1, 2, 3])])
        self.assertEqual([row.get(at) for at in range(9)], [1, 2, 3, 4, 5, 6, 0, 0, 0])
        self.assertEqual([make_of(19, 2, ONE, [1, 2, 3]), make_of(19, 2, ONE, [4, 5, 6])],
                         [[row.rack.peek(plank, stripe) for plank in range(4)] for stripe in (0, 1)])


if __name__ == "__main__":
    unittest.main()
