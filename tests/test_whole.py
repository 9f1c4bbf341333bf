"""Points 5 and 70: long runs of lines and of deeds, held against a plain list of what was put last."""

import random
import unittest

from spareplank.desk import Desk
from spareplank.errors import Gone, NoPower, Standing
from spareplank.lines import plain_weights
from spareplank.spares import step_spare
from spareplank.verdicts import verdict_of
from spareplank.walks import mend_stripe, walk_through
from tests.reckoning import (WEIGHTS, blocks_of, fixed, is_fixed, lines_of, makes_by, row_of, wrong_in)


class LineRun:
    """A desk, driven by drawn lines, beside a plain list of what was put last."""

    def __init__(self, case, seed):
        source = random.Random(seed)
        self.case, self.source, self.desk = case, source, Desk()
        rule, self.many, self.width = source.choice(((19, 1, 4), (19, 3, 4), (37, 2, 5), (131, 4, 7), (285, 2, 8)))
        self.sums = source.randint(1, 2)
        self.data = source.randint(1, 8 - self.sums)
        self.planks, self.stripes = self.data + self.sums, source.randint(1, 6)
        slots, step = source.randint(1, 8), source.randint(-9, 9)
        self.say(f"make {rule} {self.many} {self.data} {self.sums} {self.stripes} {slots} {step}", "ok")
        self.figures = (self.width * self.many + 3) // 4
        self.truth = ["0" * self.figures] * (self.data * self.stripes)
        # A spare's mark, moved on with each step that was answered.
        self.marks = {}

    def say(self, line, due=None):
        told = self.desk.say(line)
        if due is not None:
            self.case.assertEqual((line, told), (line, due))
        return told

    def drawn_block(self):
        return f"{self.source.randrange(2 ** (self.width * self.many)):x}".rjust(self.figures, "0")

    def is_gap(self, plank, stripe):
        kind = self.say(f"kind {plank}")
        away = kind == "lost" or kind == "spare" and stripe >= self.marks[plank]
        return away or self.say(f"peek {plank} {stripe}") == "none"

    def gaps(self, stripe, but=None):
        return len([plank for plank in range(self.planks) if plank != but and self.is_gap(plank, stripe)])

    def may_lose(self, plank):
        return all(self.gaps(stripe, plank) < self.sums for stripe in range(self.stripes))

    def check_all(self):
        for at, block in enumerate(self.truth):
            self.say(f"get {at}", block)

    def deed(self):
        plank, stripe = self.source.randrange(self.planks), self.source.randrange(self.stripes)
        kind = self.say(f"kind {plank}")
        draw = self.source.randrange(12)
        if draw < 3:
            self.put()
        elif draw == 3 and kind != "lost" and self.may_lose(plank):
            self.say(f"lose {plank}", "ok")
        elif draw in (4, 5) and kind == "lost":
            self.say(f"spare {plank}", "ok")
            self.marks[plank] = 0
        elif draw in (4, 5, 6) and kind == "spare":
            self.step(plank)
        elif draw == 7 and kind in ("whole", "slow"):
            self.say(f"slow {plank} {self.source.randint(2, 9)}", "ok")
        elif draw == 8 and not self.is_gap(plank, stripe) and self.gaps(stripe) < self.sums:
            self.say(f"spoil {plank} {stripe}", "ok")
        elif draw == 9 and self.gaps(stripe) == 0:
            self.lie(plank, stripe)
        elif draw == 10:
            self.mend(stripe)
        else:
            due = [f"right {self.sums - self.gaps(one)}" for one in range(self.stripes)]
            self.say("walk", "; ".join(due))

    def put(self):
        at = self.source.randrange(len(self.truth))
        some = [self.drawn_block() for _ in range(self.source.randint(1, len(self.truth) - at))]
        fresh = self.truth[:at] + some + self.truth[at + len(some):]
        first, last = at // self.data, (at + len(some) - 1) // self.data
        line = " ".join([f"put {at}"] + some)
        if self.source.random() < 0.5:
            self.say(line, f"ok {last - first + 1}")
            self.truth = fresh
            return
        self.say(f"supply {self.source.randrange(12)}", "ok")
        try:
            self.say(line)
        except NoPower:
            self.come_up()
            self.find_beginning(fresh, first, last)
        else:
            self.say("supply", "ok")
            self.truth = fresh

    def come_up(self):
        """Comes up, perhaps with falls on the way."""
        while True:
            self.say(self.source.choice(("supply", "supply 1", "supply 2", "supply 5")), "ok")
            try:
                self.say("up")
            except NoPower:
                continue
            self.say("supply", "ok")
            return

    def find_beginning(self, fresh, first, last):
        """What the row holds now must be the new blocks in a beginning of the stripes, the old ones in all others."""
        now = [self.say(f"get {at}") for at in range(len(self.truth))]
        mixed = [fresh[:stripe * self.data] + self.truth[stripe * self.data:] for stripe in range(first, last + 2)]
        self.case.assertIn(now, mixed)
        self.truth = now

    def step(self, plank):
        if self.source.random() < 0.3:
            self.say(f"supply {self.source.randrange(2)}", "ok")
            with self.case.assertRaises(NoPower):
                self.say(f"step {plank}")
            self.say("supply", "ok")
        self.say(f"step {plank}", "reckoned")
        self.marks[plank] += 1
        self.case.assertEqual(self.say(f"kind {plank}"), "whole" if self.marks[plank] == self.stripes else "spare")

    def lie(self, plank, stripe):
        """A block lies in a stripe without gaps; the walk and a mending follow at once."""
        old, new = self.say(f"peek {plank} {stripe}"), self.drawn_block()
        self.say(f"lie {plank} {stripe} {new}", "ok")
        told = self.say("walk").split("; ")[stripe]
        if new == old:
            self.case.assertEqual(told, f"right {self.sums}")
        elif self.sums == 2:
            self.case.assertEqual(told, f"lies {plank} {old}")
            self.say(f"mend {stripe}", str(plank))
        else:
            self.case.assertEqual(told, "open")
            self.say(f"mend {stripe}", "open")
            self.say(f"spoil {plank} {stripe}", "ok")
            self.say(f"mend {stripe}", str(plank))
        self.say(f"peek {plank} {stripe}", old)

    def mend(self, stripe):
        unread = [str(plank) for plank in range(self.planks) if self.say(f"peek {plank} {stripe}") == "none"
                  and (self.say(f"kind {plank}") in ("whole", "slow")
                       or self.say(f"kind {plank}") == "spare" and stripe < self.marks[plank])]
        self.say(f"mend {stripe}", " ".join(unread) or "none")


class LinesTest(unittest.TestCase):
    """Point 70, from lines alone."""

    def test_long_runs(self):
        for seed in range(25):
            run = LineRun(self, seed)
            for _ in range(60):
                run.deed()
            run.check_all()

    def test_runs_that_are_read_whole_behind_each_deed(self):
        for seed in range(100, 108):
            run = LineRun(self, seed)
            for _ in range(30):
                run.deed()
                run.check_all()

    def test_a_fall_at_every_write_of_a_put_by_lines(self):
        old, new = [f"{at:02x}" for at in range(15)], [f"{at + 100:02x}" for at in range(15)]
        for slots in (1, 2, 5):
            writes, counts = 0, []
            while True:
                desk = Desk()
                for line in (f"make 19 2 3 2 5 {slots} 1", "put 0 " + " ".join(old), "lose 2", f"supply {writes}"):
                    desk.say(line)
                try:
                    desk.say("put 1 " + " ".join(new[1:14]))
                except NoPower:
                    desk.say("supply")
                    desk.say("up")
                    now = [desk.say(f"get {at}") for at in range(15)]
                    due = [old[:1] + new[1:3 * stripe] + old[3 * stripe:] for stripe in range(1, 5)]
                    due = [old] + due + [old[:1] + new[1:14] + old[14:]]
                    self.assertIn(now, due)
                    counts.append(due.index(now))
                    writes += 1
                    continue
                break
            self.assertEqual(counts, sorted(counts))
            self.assertEqual(set(counts), set(range(0, 6)) if slots == 1 else set(counts))
            self.assertEqual((counts[0], counts[-1]), (0, 5))


class DeedRun:
    """A row by any weights, driven by drawn deeds, with any number of gaps, beside a plain list."""

    def __init__(self, case, weights, seed):
        self.case, self.weights, self.source = case, weights, random.Random(seed)
        self.row = row_of(weights, self.source.randint(1, 4), self.source.randint(1, 3), self.source.randint(-3, 3))
        self.rack, self.truth = self.row.rack, [0] * self.row.shape.size
        self.refusals = 0

    def deed(self):
        source, rack = self.source, self.rack
        plank, stripe = source.randrange(rack.planks), source.randrange(rack.stripes)
        draw = source.randrange(10)
        if draw < 3:
            self.put()
        elif draw == 3:
            self.walk()
        elif draw == 4:
            self.mend(stripe)
        elif draw < 8 and rack.kind_of(plank) == "spare":
            self.step(plank)
        elif draw < 8 and rack.kind_of(plank) == "lost":
            rack.put_spare(plank, [source.choice((None, source.randrange(256))) for _ in range(rack.stripes)])
        elif draw == 8 and rack.there(plank, stripe):
            rack.spoil(plank, stripe)
        elif draw == 9 and source.random() < 0.4 and rack.kind_of(plank) != "lost":
            rack.lose(plank)
        elif rack.kind_of(plank) in ("whole", "slow"):
            rack.make_slow(plank, source.randint(2, 9))
        self.check()

    def check(self):
        """No block that stands is out of the truth, and each is told just where what stands fixes it."""
        self.case.assertEqual(wrong_in(self.row, self.weights, self.truth), [])
        at = self.source.randrange(len(self.truth))
        if is_fixed(self.row, self.weights, at):
            self.case.assertEqual(self.row.get(at), self.truth[at])
        else:
            stripe, role = divmod(at, self.row.shape.data)
            with self.case.assertRaises(Gone) as caught:
                self.row.get(at)
            self.case.assertEqual((caught.exception.stripe, caught.exception.plank),
                                  (stripe, self.row.shape.plank_of(stripe, role)))

    def put(self):
        source, row = self.source, self.row
        at = source.randrange(len(self.truth))
        some = [source.randrange(256) for _ in range(source.randint(1, len(self.truth) - at))]
        fresh = self.truth[:at] + some + self.truth[at + len(some):]
        self.rack.supply(source.choice((None, None, source.randrange(15))))
        before = len(self.rack.events())
        # Where all that stands fixes each stripe whole, no writing may be refused with Gone.
        whole = all(is_fixed(row, self.weights, place) for place in range(len(self.truth)))
        try:
            row.put(at, some)
        except NoPower:
            noted = [event[2] for event in self.rack.events()[before:] if event[0] == "note"]
            fresh = [new if place // row.shape.data in noted else old
                     for place, (new, old) in enumerate(zip(fresh, self.truth))]
            self.come_up()
        except Gone:
            self.refusals += 1
            self.case.assertFalse(whole and self.sums_fixed())
            self.case.assertEqual({event[0] for event in self.rack.events()[before:]} - {"look"}, set())
            fresh = self.truth
        self.rack.supply()
        self.truth = fresh

    def sums_fixed(self):
        known = [[block is not None for block in blocks_of(self.row, stripe)] for stripe in range(self.rack.stripes)]
        return all(fixed(19, lines_of(self.weights), sight, role) for sight in known for role in range(len(sight)))

    def come_up(self):
        while True:
            self.rack.supply(self.source.choice((None, 0, 1, 3)))
            if self.row.standing():
                with self.case.assertRaises(Standing):
                    walk_through(self.row)
            if self.source.random() < 0.2:
                plank = self.source.randrange(self.rack.planks)
                if self.rack.kind_of(plank) != "lost":
                    self.rack.lose(plank)
            try:
                self.row.up()
                return
            except NoPower:
                pass

    def step(self, plank):
        stripe = self.rack.mark_of(plank)
        role = self.row.shape.role_of(stripe, plank)
        known = [block is not None for block in blocks_of(self.row, stripe)]
        due = fixed(19, lines_of(self.weights), known, role)
        self.case.assertEqual(step_spare(self.row, plank), due)
        self.case.assertEqual(self.rack.peek(plank, stripe),
                              makes_by(self.weights, self.truth)[stripe][role] if due else None)

    def walk(self):
        for stripe, told in enumerate(walk_through(self.row)):
            seen = blocks_of(self.row, stripe)
            known = [block is not None for block in seen]
            whole = all(fixed(19, lines_of(self.weights), known, role) for role in range(len(seen)))
            self.case.assertEqual(told[0], "right" if whole else "open")
            if whole:
                self.case.assertEqual(told[1], len(self.weights) - seen.count(None))

    def mend(self, stripe):
        told = mend_stripe(self.row, stripe)
        make = makes_by(self.weights, self.truth)[stripe]
        if told is None:
            self.case.assertEqual(verdict_of(self.row.code, blocks_of(self.row, stripe))[0], "open")
        else:
            for role, plank in enumerate(self.row.shape.order_of(stripe)):
                if self.rack.there(plank, stripe):
                    self.case.assertEqual(self.rack.peek(plank, stripe), make[role])


class DeedsTest(unittest.TestCase):
    """Point 5, by any weights."""

    def test_long_runs(self):
        refusals = 0
        for number, weights in enumerate(list(WEIGHTS) + [plain_weights(4, 2), plain_weights(5, 1)]):
            for seed in (number, number + 1000):
                run = DeedRun(self, weights, seed)
                for _ in range(60):
                    run.deed()
                refusals += run.refusals
        self.assertGreater(refusals, 50)

    def test_a_lost_plank_comes_back_as_it_would_have_been(self):
        source = random.Random(5)
        for weights in (plain_weights(3, 1), plain_weights(4, 2), plain_weights(6, 2)):
            row, twin = row_of(weights, 6, 2, 1), row_of(weights, 6, 2, 1)
            for _ in range(3):
                plank = source.randrange(row.rack.planks)
                row.rack.lose(plank)
                row.rack.put_spare(plank)
                while row.rack.kind_of(plank) == "spare":
                    at = source.randrange(row.shape.size)
                    some = [source.randrange(256) for _ in range(source.randint(1, row.shape.size - at))]
                    row.put(at, some)
                    twin.put(at, some)
                    self.assertTrue(step_spare(row, plank))
                held = [[[one.rack.peek(plank, stripe) for stripe in range(6)] for plank in range(row.rack.planks)]
                        for one in (row, twin)]
                self.assertEqual(held[0], held[1])

    def test_the_walk_names_what_lies(self):
        source = random.Random(6)
        for weights in WEIGHTS:
            row = row_of(weights, 3, 2, 1)
            truth = [source.randrange(256) for _ in range(row.shape.size)]
            row.put(0, truth)
            for plank in range(row.rack.planks):
                old = row.rack.peek(plank, 1)
                row.rack.lie(plank, 1, old ^ source.randrange(1, 256))
                told = walk_through(row)
                self.assertEqual([one[0] for one in told[::2]], ["right", "right"])
                # Where the walk does not name this block, there was another change of one block that makes it right.
                if told[1][0] == "lies":
                    self.assertEqual(told[1], ("lies", plank, old))
                else:
                    self.assertEqual(told[1][0], "open")
                    seen = blocks_of(row, 1)
                    for make in told[1][1:]:
                        self.assertEqual(len([1 for one, two in zip(make, seen) if one != two]), 1)
                row.rack.lay(plank, 1, old)


if __name__ == "__main__":
    unittest.main()
