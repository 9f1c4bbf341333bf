"""Points 37 and 38: an Asking, what it knows, prices, orders and detours."""

import itertools
import random
import unittest

from spareplank.asking import Asking
from tests.reckoning import WEIGHTS, Stripe, code_of, drawn_stripe, fixed, lines_of, make_of


class TakingTest(unittest.TestCase):
    """Point 37."""

    def setUp(self):
        self.code = code_of([[1, 1, 1], [1, 2, 3]])
        self.stripe = Stripe([5, None, 7, None, 9])
        self.costs = [1, 2, None, None, 9]
        self.asking = Asking(self.code, self.stripe.ask, self.costs)

    def test_at_first(self):
        self.assertIs(self.asking.code, self.code)
        self.assertEqual(self.asking.ask, self.stripe.ask)
        self.assertEqual(self.asking.costs, [1, 2, None, None, 9])
        self.assertEqual((self.asking.row, self.asking.asked, self.stripe.calls), ([None] * 5, [], []))
        self.assertEqual([self.asking.may(role) for role in range(5)], [True, True, False, False, True])

    def test_take(self):
        self.assertEqual(self.asking.take(4), 9)
        self.assertIsNone(self.asking.take(1))
        self.assertIsNone(self.asking.take(2))
        self.assertEqual(self.asking.take(0), 5)
        self.assertEqual(self.asking.row, [5, None, None, None, 9])
        self.assertEqual((self.asking.asked, self.stripe.calls), ([4, 1, 0], [4, 1, 0]))
        self.assertEqual([self.asking.may(role) for role in range(5)], [False] * 5)

    def test_ask_is_called_once_for_each_role(self):
        for role in (0, 1, 2, 3, 4) * 3:
            told = self.asking.take(role)
            self.assertEqual(told, [5, None, None, None, 9][role])
        self.assertEqual((self.asking.asked, self.stripe.calls), ([0, 1, 4], [0, 1, 4]))

    def test_a_block_of_nought_is_known(self):
        stripe = Stripe([0] * 5)
        asking = Asking(self.code, stripe.ask, [1] * 5)
        self.assertEqual(asking.take(2), 0)
        self.assertEqual(asking.take(2), 0)
        self.assertEqual((asking.row, stripe.calls), ([None, None, 0, None, None], [2]))

    def test_costs_are_a_list_of_its_own(self):
        self.costs[0] = None
        self.costs.clear()
        self.assertTrue(self.asking.may(0))
        self.assertEqual(self.asking.costs, [1, 2, None, None, 9])

    def test_two_askings_have_nothing_in_common(self):
        other = Asking(self.code, self.stripe.ask, self.costs)
        self.asking.take(0)
        self.assertEqual((other.row, other.asked, other.may(0)), ([None] * 5, [], True))

    def test_looking_ahead_asks_nothing(self):
        for some in ([], [0], [1, 2], [0, 1, 2, 3, 4]):
            self.asking.fixes(some)
            self.asking.price(some)
            self.asking.detour(some)
            self.asking.block_of(0)
        self.assertEqual((self.asking.row, self.asking.asked, self.stripe.calls), ([None] * 5, [], []))


class PricesTest(unittest.TestCase):
    """Point 38."""

    def due_detour(self, lines, known, order, some):
        for many in range(len(order) + 1):
            more = [is_known or role in order[:many] for role, is_known in enumerate(known)]
            if all(fixed(19, lines, more, role) for role in some):
                return order[:many]
        return None

    def check(self, asking, weights, make, some):
        lines = lines_of(weights)
        known = [block is not None for block in asking.row]
        kept = list(some)
        loose = [role for role in some if not fixed(19, lines, known, role)]
        self.assertIs(asking.fixes(some), not loose)
        askable = [role for role in range(len(make)) if asking.costs[role] is not None and role not in asking.asked]
        price = sum(asking.costs[role] or 0 for role in loose) if set(loose) <= set(askable) else None
        self.assertEqual(asking.price(some), price)
        order = sorted(askable, key=lambda role: (asking.costs[role], role))
        self.assertEqual(asking.detour(some), self.due_detour(lines, known, order, some))
        self.assertEqual(some, kept)

    def test_drawn_stripes(self):
        source = random.Random(38)
        for weights in WEIGHTS:
            code = code_of(weights)
            for _ in range(20):
                stripe, costs, make = drawn_stripe(source, weights)
                asking = Asking(code, stripe.ask, costs)
                for role in source.sample(range(code.roles), source.randint(0, code.roles)):
                    for _ in range(2):
                        some = source.sample(range(code.roles), source.randint(0, code.roles))
                        self.check(asking, weights, make, some)
                    asking.take(role)
                    known = [block is not None for block in asking.row]
                    for other in range(code.roles):
                        due = make[other] if fixed(19, lines_of(weights), known, other) else None
                        self.assertEqual(asking.block_of(other), due)
                self.assertEqual(stripe.calls, asking.asked)

    def test_an_empty_list(self):
        for costs in ([None] * 4, [1] * 4):
            asking = Asking(code_of([[1, 1, 1]]), Stripe([0] * 4).ask, costs)
            self.assertIs(asking.fixes([]), True)
            self.assertEqual((asking.price([]), asking.detour([])), (0, []))

    def test_equal_costs(self):
        asking = Asking(code_of([[1, 1, 1, 1]]), Stripe([0] * 5).ask, [3] * 5)
        self.assertEqual(asking.detour([0]), [0])
        self.assertEqual(asking.detour([4]), [0, 1, 2, 3])
        self.assertEqual(asking.detour([3]), [0, 1, 2, 3])
        self.assertEqual(asking.price([1, 2]), 6)

    def test_the_cheapest_first(self):
        asking = Asking(code_of([[1, 1, 1, 1]]), Stripe([0] * 5).ask, [9, 2, 3, 2, 1])
        self.assertEqual(asking.detour([0]), [4, 1, 3, 2])
        self.assertEqual(asking.detour([1, 4]), [4, 1])
        asking.take(1)
        self.assertEqual(asking.detour([3]), [4, 3])
        self.assertEqual(asking.price([1, 3, 4]), 3)

    def test_roles_that_may_not_be_asked(self):
        asking = Asking(code_of([[1, 1, 1]]), Stripe([0, None, 0, 0]).ask, [1, 1, 1, None])
        self.assertIsNone(asking.price([3]))
        self.assertIsNone(asking.price([0, 3]))
        self.assertEqual(asking.detour([3]), [0, 1, 2])
        asking.take(1)
        self.assertIsNone(asking.price([1]))
        self.assertEqual(asking.price([0]), 1)
        self.assertIsNone(asking.detour([1]))
        self.assertIsNone(asking.detour([0, 1]))
        self.assertEqual(asking.detour([2, 0]), [0, 2])
        self.assertIsNone(asking.block_of(1))

    def test_what_is_fixed_costs_nothing(self):
        asking = Asking(code_of([[1, 1, 1]]), Stripe([1, 2, 3, 0]).ask, [1, 1, None, 1])
        for role in (0, 1, 3):
            asking.take(role)
        self.assertEqual((asking.price([2]), asking.detour([2]), asking.block_of(2)), (0, [], 3))
        self.assertEqual((asking.price([0, 1, 2, 3]), asking.fixes([0, 1, 2, 3])), (0, True))

    def test_lists_given_are_new(self):
        asking = Asking(code_of([[1, 1, 1]]), Stripe([0] * 4).ask, [1] * 4)
        asking.detour([3]).clear()
        self.assertEqual(asking.detour([3]), [0, 1, 2])
        asking.detour([]).append(7)
        self.assertEqual(asking.detour([]), [])

    def test_every_list_of_a_small_code(self):
        weights = [[1, 1], [1, 2]]
        for costs in itertools.product((None, 1, 2), repeat=4):
            for taken in ([], [0], [3], [1, 2]):
                stripe = Stripe(make_of(19, 2, weights, [7, 8]))
                asking = Asking(code_of(weights), stripe.ask, list(costs))
                for role in taken:
                    asking.take(role)
                for many in range(5):
                    for some in itertools.permutations(range(4), many):
                        self.check(asking, weights, stripe.blocks, list(some))


if __name__ == "__main__":
    unittest.main()
