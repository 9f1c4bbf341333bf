"""Points 29 to 36: the rack, fate, looks, power and events."""

import random
import unittest

from spareplank.errors import NoPlace, NoPower, NoShape, PlankError, WrongPlank
from spareplank.racks import Rack
from tests.reckoning import state_of

FAR = [-(10 ** 29), -9, -1]


def of_all_kinds():
    """A rack with a whole, a slow, a lost plank, and a spare with mark 2; planks hold 10 * plank + stripe."""
    rack = Rack(4, 5, 3)
    for plank in range(4):
        for stripe in range(5):
            rack.lie(plank, stripe, 10 * plank + stripe)
    rack.make_slow(1, 7)
    rack.lose(2)
    rack.lose(3)
    rack.put_spare(3, [30, 31, 32, None, 34])
    rack.move_mark(3)
    rack.move_mark(3)
    return rack


def state(rack):
    """All that a rack tells without power."""
    return state_of(rack) + (rack.events(),)


class RackTest(unittest.TestCase):

    def refused(self, kind, field, method, *given):
        with self.assertRaises(kind) as caught:
            method(*given)
        if kind is NoPlace:
            self.assertEqual(caught.exception.place, field)
        if kind is WrongPlank:
            self.assertEqual(caught.exception.plank, field)


class BoundsTest(RackTest):
    """Point 29."""

    def test_bounds(self):
        for planks in range(-1, 11):
            for stripes in (-1, 0, 1, 2, 31, 32, 33):
                for slots in range(-1, 11):
                    if 2 <= planks <= 8 and 1 <= stripes <= 32 and 1 <= slots <= 8:
                        rack = Rack(planks, stripes, slots)
                        self.assertEqual((rack.planks, rack.stripes, rack.slots), (planks, stripes, slots))
                    else:
                        self.refused(NoShape, None, Rack, planks, stripes, slots)

    def test_numbers_of_many_figures(self):
        for far in (10 ** 29, -(10 ** 29)):
            for given in ((far, 3, 3), (3, far, 3), (3, 3, far)):
                self.refused(NoShape, None, Rack, *given)

    def test_a_new_rack(self):
        rack = Rack(3, 4, 2)
        self.assertEqual(state(rack), ([("whole", 1, None, [(0, True)] * 4)] * 3, True, [], []))
        for number in range(200):
            rack.lay(number % 3, number % 4, number)
        self.assertTrue(rack.has_power())

    def test_two_racks_have_nothing_in_common(self):
        one, other = Rack(3, 4, 2), Rack(3, 4, 2)
        kept = state(other)
        one.lay(0, 0, 5)
        one.note(0, 1, [(2, 3)])
        one.lose(1)
        one.put_spare(1)
        one.move_mark(1)
        one.make_slow(2, 4)
        one.look(0, 0)
        one.supply(0)
        self.refused(NoPower, None, one.strike, 0)
        self.assertEqual(state(other), kept)
        other.lay(2, 3, 9)
        self.assertEqual(other.peek(2, 3), 9)


class PlacesTest(RackTest):
    """Point 30."""

    def by_plank(self, rack):
        return [(rack.lose,), (rack.put_spare,), (rack.make_slow, 1), (rack.make_slow, 5), (rack.kind_of,),
                (rack.cost_of,), (rack.mark_of,), (rack.move_mark,)]

    def by_plank_and_stripe(self, rack):
        return [(rack.spoil,), (rack.lie, 5), (rack.peek,), (rack.there,), (rack.look,), (rack.lay, 5)]

    def racks(self):
        """Racks in all states of power."""
        plain, short, dark = of_all_kinds(), of_all_kinds(), of_all_kinds()
        short.supply(0)
        dark.supply(0)
        self.refused(NoPower, None, dark.strike, 0)
        return plain, short, dark

    def test_planks(self):
        for rack in self.racks():
            kept = state(rack)
            for plank in FAR + [4, 5, 10 ** 29]:
                for method, *more in self.by_plank(rack):
                    self.refused(NoPlace, plank, method, plank, *more)
                for method, *more in self.by_plank_and_stripe(rack):
                    for stripe in (0, 4, 5, -2, 10 ** 28):
                        self.refused(NoPlace, plank, method, plank, stripe, *more)
            self.assertEqual(state(rack), kept)

    def test_stripes(self):
        for rack in self.racks():
            kept = state(rack)
            for stripe in FAR + [5, 6, 10 ** 29]:
                for plank in range(4):
                    for method, *more in self.by_plank_and_stripe(rack):
                        self.refused(NoPlace, stripe, method, plank, stripe, *more)
                for slot in range(3):
                    self.refused(NoPlace, stripe, rack.note, slot, stripe, [])
            self.assertEqual(state(rack), kept)

    def test_slots(self):
        for rack in self.racks():
            kept = state(rack)
            for slot in FAR + [3, 4, 10 ** 29]:
                self.refused(NoPlace, slot, rack.strike, slot)
                for stripe in (0, 4, 5, -1, 10 ** 28):
                    self.refused(NoPlace, slot, rack.note, slot, stripe, [(0, 1)])
            self.assertEqual(state(rack), kept)

    def test_what_is_refused_so_does_not_let_the_power_go(self):
        rack = Rack(2, 2, 1)
        rack.supply(0)
        self.refused(NoPlace, 2, rack.lay, 2, 0, 5)
        self.refused(NoPlace, 1, rack.strike, 1)
        self.refused(NoPlace, 2, rack.note, 0, 2, [])
        self.refused(NoPlace, -1, rack.move_mark, -1)
        self.assertTrue(rack.has_power())

    def test_planks_within_pairs_are_not_looked_at(self):
        rack = Rack(2, 2, 1)
        pairs = [(99, 5), (-1, None), (10 ** 29, 10 ** 39)]
        rack.note(0, 1, pairs)
        self.assertEqual(rack.intents(), [(0, 1, pairs)])


class FateTest(RackTest):
    """Point 31."""

    def test_lose(self):
        for plank in (0, 1, 3):
            rack = of_all_kinds()
            events = rack.events()
            self.assertIsNone(rack.lose(plank))
            self.assertEqual((rack.kind_of(plank), rack.cost_of(plank), rack.mark_of(plank)), ("lost", 1, None))
            self.assertEqual([rack.peek(plank, stripe) for stripe in range(5)], [None] * 5)
            self.assertEqual([rack.there(plank, stripe) for stripe in range(5)], [False] * 5)
            kept = state(rack)
            self.refused(WrongPlank, plank, rack.lose, plank)
            self.assertEqual(state(rack), kept)
            self.assertEqual(rack.events(), events)

    def test_what_a_lost_plank_held_is_forgotten(self):
        rack = of_all_kinds()
        rack.lose(0)
        rack.put_spare(0)
        self.assertEqual([rack.peek(0, stripe) for stripe in range(5)], [None] * 5)

    def test_put_spare(self):
        rack = of_all_kinds()
        events = rack.events()
        some = [1, None, 3, None, 10 ** 38]
        self.assertIsNone(rack.put_spare(2, some))
        some[0] = 99
        some.pop()
        self.assertEqual((rack.kind_of(2), rack.cost_of(2), rack.mark_of(2)), ("spare", 1, 0))
        self.assertEqual([rack.peek(2, stripe) for stripe in range(5)], [1, None, 3, None, 10 ** 38])
        self.assertEqual([rack.there(2, stripe) for stripe in range(5)], [False] * 5)
        rack.lay(2, 1, 8)
        self.assertEqual(some, [99, None, 3, None])
        for plank in range(4):
            kept = state(rack)
            self.refused(WrongPlank, plank, rack.put_spare, plank)
            self.refused(WrongPlank, plank, rack.put_spare, plank, [1] * 5)
            self.assertEqual(state(rack), kept)
        self.assertEqual(rack.events(), events + [("lay", 2, 1)])

    def test_put_spare_without_a_list(self):
        for more in ((), (None,)):
            rack = of_all_kinds()
            rack.put_spare(2, *more)
            self.assertEqual([rack.peek(2, stripe) for stripe in range(5)], [None] * 5)

    def test_make_slow(self):
        rack = of_all_kinds()
        events = rack.events()
        for plank in (0, 1):
            held = [rack.peek(plank, stripe) for stripe in range(5)]
            for cost in (2, 9, 5, 5):
                self.assertIsNone(rack.make_slow(plank, cost))
                self.assertEqual((rack.kind_of(plank), rack.cost_of(plank)), ("slow", cost))
                self.assertEqual([rack.peek(plank, stripe) for stripe in range(5)], held)
                self.assertEqual([rack.there(plank, stripe) for stripe in range(5)], [True] * 5)
        kept = state(rack)
        for plank in range(4):
            for cost in FAR + [0, 1, 10, 11, 10 ** 29]:
                self.refused(NoShape, None, rack.make_slow, plank, cost)
        for plank in (2, 3):
            for cost in (2, 9):
                self.refused(WrongPlank, plank, rack.make_slow, plank, cost)
        self.assertEqual(state(rack), kept)
        self.assertEqual(rack.events(), events)

    def test_spoil_and_lie(self):
        rack = of_all_kinds()
        events = rack.events()
        for plank in range(4):
            for stripe in range(5):
                kept = state(rack)
                if rack.there(plank, stripe):
                    self.assertIsNone(rack.spoil(plank, stripe))
                    self.assertIsNone(rack.peek(plank, stripe))
                    self.assertIsNone(rack.lie(plank, stripe, 77))
                    self.assertEqual(rack.peek(plank, stripe), 77)
                    rack.spoil(plank, stripe)
                    self.assertEqual([one for one in state(rack)[0][plank][3] if one == (None, True)].count((None, True)),
                                     stripe + 1)
                else:
                    self.refused(WrongPlank, plank, rack.spoil, plank, stripe)
                    self.refused(WrongPlank, plank, rack.lie, plank, stripe, 77)
                    self.assertEqual(state(rack), kept)
        self.assertEqual(rack.events(), events)
        rack.lay(0, 0, 5)
        self.assertEqual(rack.look(0, 0), 5)

    def test_supply(self):
        rack = Rack(2, 2, 1)
        self.assertIsNone(rack.supply(5))
        rack.supply(1)
        rack.strike(0)
        self.refused(NoPower, None, rack.strike, 0)
        rack.supply(2)
        self.assertTrue(rack.has_power())
        rack.strike(0)
        rack.supply()
        for _ in range(50):
            rack.strike(0)
        rack.supply(0)
        self.refused(NoPower, None, rack.strike, 0)
        rack.supply(None)
        for _ in range(50):
            rack.strike(0)
        rack.supply(10 ** 29)
        rack.strike(0)
        self.assertEqual(rack.events(), [("strike", 0)] * 103)

    def test_fate_without_power(self):
        rack = Rack(3, 2, 1)
        rack.supply(0)
        self.refused(NoPower, None, rack.strike, 0)
        rack.spoil(0, 0)
        rack.lie(0, 1, 9)
        rack.make_slow(1, 3)
        rack.lose(2)
        rack.put_spare(2, [4, 5])
        self.assertEqual(state(rack), ([("whole", 1, None, [(None, True), (9, True)]),
                                        ("slow", 3, None, [(0, True), (0, True)]),
                                        ("spare", 1, 0, [(4, False), (5, False)])], False, [], []))


class LooksTest(RackTest):
    """Points 32 and 33."""

    def test_looks_without_power(self):
        rack = of_all_kinds()
        rack.note(2, 4, [(0, 5)])
        rack.note(0, 1, [])
        due = ([("whole", 1, None, [(stripe, True) for stripe in range(5)]),
                ("slow", 7, None, [(10 + stripe, True) for stripe in range(5)]),
                ("lost", 1, None, [(None, False)] * 5),
                ("spare", 1, 2, [(30, True), (31, True), (32, False), (None, False), (34, False)])],
               True, [(0, 1, []), (2, 4, [(0, 5)])],
               [("mark", 3, 1), ("mark", 3, 2), ("note", 2, 4), ("note", 0, 1)])
        self.assertEqual(state(rack), due)
        rack.supply(0)
        self.assertEqual(state(rack), due)
        self.refused(NoPower, None, rack.strike, 0)
        self.assertEqual(state(rack), (due[0], False) + due[2:])

    def test_kinds(self):
        rack = of_all_kinds()
        rack.note(1, 2, [(0, 5)])
        self.assertIs(type(rack.intents()), list)
        self.assertEqual([type(part) for part in rack.intents()[0]], [int, int, list])
        self.assertEqual({type(event) for event in rack.events()}, {tuple})
        self.assertIs(rack.has_power(), True)

    def test_the_lists_given_are_new(self):
        rack = of_all_kinds()
        pairs = [(0, 5), (1, 6)]
        rack.note(1, 2, pairs)
        pairs.append((2, 7))
        rack.intents()[0][2].clear()
        rack.intents().clear()
        rack.events().clear()
        self.assertEqual(rack.intents(), [(1, 2, [(0, 5), (1, 6)])])
        self.assertEqual(rack.events(), [("mark", 3, 1), ("mark", 3, 2), ("note", 1, 2)])

    def test_look(self):
        rack = of_all_kinds()
        before = rack.events()
        rack.spoil(0, 2)
        asked = []
        for plank in range(4):
            for stripe in range(5):
                due = rack.peek(plank, stripe) if rack.there(plank, stripe) else None
                self.assertEqual(rack.look(plank, stripe), due)
                asked.append(("look", plank, stripe))
        self.assertEqual(rack.events(), before + asked)

    def test_a_look_spends_nothing(self):
        rack = of_all_kinds()
        rack.supply(1)
        for _ in range(5):
            self.assertEqual(rack.look(1, 4), 14)
        rack.lay(0, 0, 5)
        for _ in range(5):
            self.assertEqual(rack.look(0, 0), 5)
        self.assertTrue(rack.has_power())
        self.refused(NoPower, None, rack.lay, 0, 0, 6)

    def test_no_look_when_power_has_gone(self):
        rack = of_all_kinds()
        rack.supply(0)
        self.assertEqual(rack.look(0, 0), 0)
        self.refused(NoPower, None, rack.strike, 0)
        kept = state(rack)
        for plank in range(4):
            self.refused(NoPower, None, rack.look, plank, 0)
        self.assertEqual(state(rack), kept)
        rack.supply(0)
        self.assertEqual(rack.look(0, 1), 1)


class WritesTest(RackTest):
    """Points 34 to 36."""

    def test_lay(self):
        rack = of_all_kinds()
        before = rack.events()
        for plank in (0, 1, 3):
            for stripe in range(5):
                self.assertIsNone(rack.lay(plank, stripe, 10 ** 38 + stripe))
                self.assertEqual(rack.peek(plank, stripe), 10 ** 38 + stripe)
                rack.lay(plank, stripe, None)
                self.assertIsNone(rack.peek(plank, stripe))
                before.extend([("lay", plank, stripe)] * 2)
        self.assertEqual((rack.kind_of(3), rack.mark_of(3), rack.cost_of(1)), ("spare", 2, 7))
        kept = state(rack)
        self.refused(WrongPlank, 2, rack.lay, 2, 0, 5)
        self.assertEqual(state(rack), kept)
        self.assertEqual(rack.events(), before)

    def test_note_and_strike(self):
        rack = Rack(2, 4, 3)
        self.assertIsNone(rack.note(1, 3, [(1, 5), (0, None)]))
        self.assertIsNone(rack.note(0, 2, []))
        self.assertEqual(rack.intents(), [(0, 2, []), (1, 3, [(1, 5), (0, None)])])
        rack.note(1, 0, [(0, 7)])
        self.assertEqual(rack.intents(), [(0, 2, []), (1, 0, [(0, 7)])])
        self.assertIsNone(rack.strike(0))
        rack.strike(0)
        rack.strike(2)
        self.assertEqual(rack.intents(), [(1, 0, [(0, 7)])])
        self.assertEqual(rack.events(), [("note", 1, 3), ("note", 0, 2), ("note", 1, 0), ("strike", 0), ("strike", 0),
                                         ("strike", 2)])

    def test_move_mark(self):
        rack = Rack(2, 3, 1)
        rack.lose(1)
        rack.put_spare(1, [7, None, 9])
        for mark in (1, 2):
            self.assertIsNone(rack.move_mark(1))
            self.assertEqual((rack.kind_of(1), rack.mark_of(1)), ("spare", mark))
        rack.move_mark(1)
        self.assertEqual((rack.kind_of(1), rack.mark_of(1), rack.cost_of(1)), ("whole", None, 1))
        self.assertEqual([rack.peek(1, stripe) for stripe in range(3)], [7, None, 9])
        self.assertEqual([rack.there(1, stripe) for stripe in range(3)], [True] * 3)
        self.assertEqual(rack.events(), [("mark", 1, 1), ("mark", 1, 2), ("mark", 1, 3)])
        kept = state(rack)
        self.refused(WrongPlank, 1, rack.move_mark, 1)
        self.assertEqual(state(rack), kept)
        rack.lay(1, 1, 4)
        self.assertEqual(rack.look(1, 1), 4)
        rack.make_slow(1, 2)
        self.refused(WrongPlank, 1, rack.move_mark, 1)
        rack.lose(1)
        self.refused(WrongPlank, 1, rack.move_mark, 1)

    def test_a_rack_with_one_stripe(self):
        rack = Rack(2, 1, 1)
        rack.lose(0)
        rack.put_spare(0, [5])
        rack.move_mark(0)
        self.assertEqual((rack.kind_of(0), rack.peek(0, 0)), ("whole", 5))

    def test_power_for_so_many_writes(self):
        for left in range(6):
            rack = of_all_kinds()
            rack.supply(left)
            before = rack.events()
            deeds = [(rack.note, 0, 1, [(0, 5)]), (rack.lay, 0, 1, 5), (rack.lay, 3, 4, None), (rack.move_mark, 3),
                     (rack.strike, 0)]
            for number, (method, *given) in enumerate(deeds):
                if number < left:
                    method(*given)
                else:
                    kept = state(rack)
                    self.refused(NoPower, None, method, *given)
                    self.assertEqual(state(rack), (kept[0], False) + kept[2:])
            self.assertEqual(rack.has_power(), left == 5)
            done = [("note", 0, 1), ("lay", 0, 1), ("lay", 3, 4), ("mark", 3, 3), ("strike", 0)]
            self.assertEqual(rack.events(), before + done[:left])

    def test_power_goes_ahead_of_wrong_plank(self):
        for method_of in (lambda rack: (rack.lay, 2, 0, 5), lambda rack: (rack.move_mark, 0),
                          lambda rack: (rack.move_mark, 2)):
            rack = of_all_kinds()
            method, *given = method_of(rack)
            rack.supply(1)
            for _ in range(3):
                self.refused(WrongPlank, given[0], method, *given)
            self.assertTrue(rack.has_power())
            rack.strike(0)
            self.assertTrue(rack.has_power())
            self.refused(NoPower, None, method, *given)
            self.assertFalse(rack.has_power())
            self.refused(NoPower, None, method, *given)

    def test_when_power_has_gone(self):
        rack = of_all_kinds()
        rack.note(0, 1, [(0, 5)])
        rack.supply(0)
        self.refused(NoPower, None, rack.lay, 0, 0, 9)
        kept = state(rack)
        for method, *given in ((rack.lay, 0, 0, 9), (rack.lay, 2, 0, 9), (rack.note, 0, 2, []), (rack.strike, 0),
                               (rack.move_mark, 3), (rack.move_mark, 0), (rack.look, 0, 0)):
            self.refused(NoPower, None, method, *given)
            self.assertEqual(state(rack), kept)
        rack.supply()
        rack.lay(0, 0, 9)
        rack.strike(0)
        self.assertEqual((rack.peek(0, 0), rack.intents()), (9, []))


class Model:
    """A rack told anew, plank by plank in plain dicts, to hold the rack against."""

    def __init__(self, planks, stripes, slots):
        self.planks = [{"word": "whole", "price": 1, "mark": None, "held": [0] * stripes} for _ in range(planks)]
        self.stripes, self.notes, self.slots = stripes, {}, slots
        self.left, self.dark, self.done = None, False, []

    def is_there(self, plank, stripe):
        word = self.planks[plank]["word"]
        return word in ("whole", "slow") or word == "spare" and stripe < self.planks[plank]["mark"]

    def state(self):
        planks = [(one["word"], one["price"], one["mark"],
                   [(block, self.is_there(number, stripe)) for stripe, block in enumerate(one["held"])])
                  for number, one in enumerate(self.planks)]
        return planks, not self.dark, [(slot,) + self.notes[slot] for slot in sorted(self.notes)], self.done

    def do(self, word, given):
        """What comes of a deed: a text for the error, or what is given."""
        names = {"strike": "s", "note": "st", "supply": ""}.get(
            word, "pt" if word in ("spoil", "lie", "look", "lay") else "p")
        for name, number in zip(names, given):
            if not 0 <= number < {"s": self.slots, "t": self.stripes, "p": len(self.planks)}[name]:
                return "NoPlace", number
        if word in ("look", "lay", "note", "strike", "move_mark"):
            if not self.dark and word != "look" and self.left == 0:
                self.dark = True
            if self.dark:
                return "NoPower"
        return getattr(self, word)(*given)

    def written(self, event):
        self.done = self.done + [event]
        if self.left is not None:
            self.left -= 1

    def lose(self, plank):
        if self.planks[plank]["word"] == "lost":
            return "WrongPlank", plank
        self.planks[plank] = {"word": "lost", "price": 1, "mark": None, "held": [None] * self.stripes}

    def put_spare(self, plank, some):
        if self.planks[plank]["word"] != "lost":
            return "WrongPlank", plank
        self.planks[plank] = {"word": "spare", "price": 1, "mark": 0, "held": list(some)}

    def make_slow(self, plank, cost):
        if not 2 <= cost <= 9:
            return "NoShape"
        if self.planks[plank]["word"] not in ("whole", "slow"):
            return "WrongPlank", plank
        self.planks[plank].update(word="slow", price=cost)

    def spoil(self, plank, stripe):
        return self.lie(plank, stripe, None)

    def lie(self, plank, stripe, block):
        if not self.is_there(plank, stripe):
            return "WrongPlank", plank
        self.planks[plank]["held"][stripe] = block

    def supply(self, left):
        self.left, self.dark = left, False

    def look(self, plank, stripe):
        self.done = self.done + [("look", plank, stripe)]
        return self.planks[plank]["held"][stripe] if self.is_there(plank, stripe) else None

    def lay(self, plank, stripe, block):
        if self.planks[plank]["word"] == "lost":
            return "WrongPlank", plank
        self.planks[plank]["held"][stripe] = block
        self.written(("lay", plank, stripe))

    def note(self, slot, stripe, pairs):
        self.notes[slot] = (stripe, list(pairs))
        self.written(("note", slot, stripe))

    def strike(self, slot):
        self.notes.pop(slot, None)
        self.written(("strike", slot))

    def move_mark(self, plank):
        one = self.planks[plank]
        if one["word"] != "spare":
            return "WrongPlank", plank
        mark = one["mark"] + 1
        one.update({"word": "whole", "mark": None} if mark == self.stripes else {"mark": mark})
        self.written(("mark", plank, mark))


class LongRunTest(RackTest):
    """Points 29 to 36 together: long runs of deeds, held against the model."""

    def drawn(self, source, rack):
        plank, stripe = source.randint(-1, rack.planks), source.randint(-1, rack.stripes)
        plank = plank if source.random() < 0.2 else plank % rack.planks
        stripe = stripe if source.random() < 0.2 else stripe % rack.stripes
        slot = source.randint(-1, rack.slots) if source.random() < 0.2 else source.randrange(rack.slots)
        block = source.choice((None, 0, 7, 10 ** 20))
        pairs = [(source.randrange(9), source.randrange(99)) for _ in range(source.randrange(3))]
        return source.choice((
            ("lose", plank), ("put_spare", plank, [source.choice((None, 5, 6)) for _ in range(rack.stripes)]),
            ("make_slow", plank, source.randint(1, 10)), ("spoil", plank, stripe), ("lie", plank, stripe, 3),
            ("supply", source.choice((None, 0, 1, 5, 9))), ("look", plank, stripe), ("lay", plank, stripe, block),
            ("note", slot, stripe, pairs), ("strike", slot), ("move_mark", plank), ("move_mark", plank)))

    def test_long_runs(self):
        for seed in range(30):
            source = random.Random(seed)
            sizes = source.randint(2, 8), source.randint(1, 5), source.randint(1, 8)
            rack, model = Rack(*sizes), Model(*sizes)
            for _ in range(120):
                word, *given = self.drawn(source, rack)
                try:
                    told = getattr(rack, word)(*given)
                except PlankError as error:
                    told = tuple([type(error).__name__] + list(vars(error).values()))
                    told = told if len(told) > 1 else told[0]
                self.assertEqual(told, model.do(word, given), (word, given))
                self.assertEqual(state(rack), model.state())


if __name__ == "__main__":
    unittest.main()
