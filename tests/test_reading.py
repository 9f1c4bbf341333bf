"""Point 39, and what point 43 says of reading."""

import itertools
import random
import unittest

from spareplank.asking import Asking
from spareplank.reading import read_role
from tests.reckoning import WEIGHTS, Stripe, code_of, drawn_stripe, fixed, lines_of, make_of, reading_due


class ReadingTest(unittest.TestCase):
    """Point 39."""

    def check(self, weights, stripe, costs, make, role):
        lines = lines_of(weights)
        stripe.calls = []
        asking = Asking(code_of(weights), stripe.ask, costs)
        told = read_role(asking, role)
        stands = [cost is not None and block is not None for cost, block in zip(costs, stripe.blocks)]
        self.assertEqual(told, make[role] if fixed(19, lines, stands, role) else None)
        self.assertEqual(asking.asked, reading_due(weights, stripe.blocks, costs, role))
        self.assertEqual(stripe.calls, asking.asked)
        return asking

    def test_drawn_stripes(self):
        source = random.Random(39)
        for weights in WEIGHTS:
            for number in range(40):
                stripe, costs, make = drawn_stripe(source, weights, (0, 0.2, 0.5)[number % 3], (0, 0.2)[number % 2])
                for role in range(len(make)):
                    self.check(weights, stripe, costs, make, role)

    def test_by_itself(self):
        make = make_of(19, 2, [[1, 1, 1]], [5, 6, 7])
        for role in range(4):
            asking = self.check([[1, 1, 1]], Stripe(make), [1, 1, 1, 1], make, role)
            self.assertEqual(asking.asked, [role])

    def test_the_detour_only_where_it_is_cheaper(self):
        make = make_of(19, 2, [[1, 1, 1]], [5, 6, 7])
        for cost, due in ((2, [1]), (3, [1]), (4, [0, 2, 3]), (9, [0, 2, 3])):
            self.assertEqual(self.check([[1, 1, 1]], Stripe(make), [1, cost, 1, 1], make, 1).asked, due)
        self.assertEqual(self.check([[1, 1, 1]], Stripe(make), [2, None, 1, 1], make, 1).asked, [2, 3, 0])

    def test_blocks_that_read_as_none_on_the_way(self):
        weights = [[1, 1, 1], [1, 2, 3]]
        make = make_of(19, 2, weights, [5, 6, 7])
        stripe = Stripe([5, None, 7, make[3], make[4]])
        self.assertEqual(self.check(weights, stripe, [9, 1, 1, 1, 1], make, 0).asked, [1, 2, 3, 4])
        stripe = Stripe([None, 6, 7, make[3], make[4]])
        self.assertEqual(self.check(weights, stripe, [1, 1, 1, 1, 1], make, 0).asked, [0, 1, 2, 3])
        # Two do not read: what was asked of a detour up to there is used in the next one.
        stripe = Stripe([None, 6, None, make[3], make[4]])
        self.assertEqual(self.check(weights, stripe, [1, 1, 1, 1, 1], make, 0).asked, [0, 1, 2, 3, 4])

    def test_where_none_is_told(self):
        make = make_of(19, 2, [[1, 1, 1]], [5, 6, 7])
        asking = self.check([[1, 1, 1]], Stripe(make), [None, 1, 1, None], make, 0)
        self.assertEqual(asking.asked, [])
        asking = self.check([[1, 1, 1]], Stripe([None, None, 7, make[3]]), [1, 1, 1, 1], make, 0)
        self.assertEqual(asking.asked, [0, 1])
        asking = self.check([[1, 1, 1]], Stripe([None] * 4), [None] * 4, make, 3)
        self.assertEqual(asking.asked, [])

    def test_what_is_known_already_is_not_asked_again(self):
        make = make_of(19, 2, [[1, 1, 1]], [5, 6, 7])
        stripe = Stripe(make)
        asking = Asking(code_of([[1, 1, 1]]), stripe.ask, [1, 1, 1, 1])
        self.assertEqual([read_role(asking, role) for role in (1, 1, 0, 3, 2)], [6, 6, 5, make[3], 7])
        self.assertEqual(stripe.calls, [1, 0, 3])

    def test_roles_read_one_behind_the_other(self):
        source = random.Random(40)
        for weights in WEIGHTS:
            stripe, costs, make = drawn_stripe(source, weights)
            asking = Asking(code_of(weights), stripe.ask, costs)
            stands = [cost is not None and block is not None for cost, block in zip(costs, stripe.blocks)]
            for role in source.sample(range(len(make)), len(make)):
                due = make[role] if fixed(19, lines_of(weights), stands, role) else None
                self.assertEqual(read_role(asking, role), due)
            self.assertEqual(len(set(stripe.calls)), len(stripe.calls))


class LeastPriceTest(unittest.TestCase):
    """Point 43 for plain weights: nothing cheaper would do."""

    def test_reading(self):
        source = random.Random(43)
        for weights in ([[1]], [[1, 1, 1]], [[1] * 5], [[1], [1]], [[1, 1], [1, 2]], [[1, 1, 1], [1, 2, 3]],
                        [[1] * 6, [1, 2, 3, 4, 5, 6]]):
            lines = lines_of(weights)
            for _ in range(25):
                stripe, costs, make = drawn_stripe(source, weights, 0, 0)
                costs = [source.randint(1, 9) for _ in make]
                for role in source.sample(range(len(make)), source.randint(0, len(weights))):
                    costs[role] = None
                there = [role for role in range(len(make)) if costs[role] is not None]
                for role in range(len(make)):
                    asking = Asking(code_of(weights), stripe.ask, costs)
                    self.assertEqual(read_role(asking, role), make[role])
                    prices = [sum(costs[one] for one in some) for many in range(len(there) + 1)
                              for some in itertools.combinations(there, many)
                              if fixed(19, lines, [one in some for one in range(len(make))], role)]
                    self.assertEqual(sum(costs[one] for one in asking.asked), min(prices))


if __name__ == "__main__":
    unittest.main()
