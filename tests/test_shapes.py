"""Points 15 to 19: turns, shapes, places there and back."""

import math
import unittest

from spareplank.errors import NoPlace, NoShape
from spareplank.shapes import Shape, even_turns

STEPS = [-(10 ** 29) - 7, -(10 ** 18), -17, -8, -5, -3, -2, -1, 0, 1, 2, 3, 4, 5, 6, 7, 8, 9, 23, 10 ** 29 + 1,
         10 ** 30 - 1]
FAR = [-(10 ** 29), -9, -2, -1]


def shapes():
    """Shapes of every number of planks and sums, with even turns and with others."""
    found = []
    for planks in range(2, 9):
        for sums in (1, 2):
            if planks > sums:
                found.append(Shape(planks - sums, planks, 2 * planks + 1, even_turns(planks, sums)))
                own = [list(range(planks))[::-1], list(range(planks))]
                found.append(Shape(planks - sums, planks, 5, own))
    return found


class EvenTurnsTest(unittest.TestCase):
    """Point 15."""

    def test_every_number_of_planks(self):
        for planks in range(2, 9):
            for step in STEPS:
                turns = even_turns(planks, step)
                with self.subTest(planks=planks, step=step):
                    self.assertEqual(len(turns), planks)
                    for at, turn in enumerate(turns):
                        self.assertIs(type(turn), list)
                        self.assertEqual(len(turn), planks)
                        for role, plank in enumerate(turn):
                            self.assertTrue(0 <= plank < planks)
                            self.assertEqual((role + step * at - plank) % planks, 0)

    def test_by_hand(self):
        self.assertEqual(even_turns(3, 1), [[0, 1, 2], [1, 2, 0], [2, 0, 1]])
        self.assertEqual(even_turns(3, 0), [[0, 1, 2], [0, 1, 2], [0, 1, 2]])
        self.assertEqual(even_turns(5, -1)[1], [4, 0, 1, 2, 3])
        self.assertEqual(even_turns(4, 2), [[0, 1, 2, 3], [2, 3, 0, 1], [0, 1, 2, 3], [2, 3, 0, 1]])
        self.assertEqual(even_turns(2, -(10 ** 29) - 1), [[0, 1], [1, 0]])

    def test_other_numbers_of_planks_are_refused(self):
        for planks in FAR + [0, 1, 9, 10, 10 ** 29]:
            for step in (0, 1, -3, 10 ** 29):
                with self.assertRaises(NoShape):
                    even_turns(planks, step)

    def test_each_list_is_new(self):
        turns = even_turns(3, 0)
        turns[0][0] = 9
        self.assertEqual(turns[1:], [[0, 1, 2], [0, 1, 2]])
        turns.clear()
        self.assertEqual(even_turns(3, 0), [[0, 1, 2]] * 3)


class ShapeBoundsTest(unittest.TestCase):
    """Point 16."""

    def refused(self, data, planks, stripes, turns):
        with self.assertRaises(NoShape):
            Shape(data, planks, stripes, turns)

    def test_data_and_planks(self):
        for planks in range(-1, 12):
            for data in range(-2, 12):
                turns = [list(range(max(planks, 0)))]
                with self.subTest(data=data, planks=planks):
                    if 2 <= planks <= 8 and 1 <= data <= planks - 1 and planks - data <= 2:
                        shape = Shape(data, planks, 3, turns)
                        self.assertEqual((shape.data, shape.planks, shape.stripes, shape.size),
                                         (data, planks, 3, 3 * data))
                    else:
                        self.refused(data, planks, 3, turns)

    def test_numbers_of_many_figures(self):
        for far in (10 ** 29, -(10 ** 29)):
            self.refused(far, 4, 3, even_turns(4, 1))
            self.refused(3, far, 3, even_turns(4, 1))
            self.refused(far, far, 3, even_turns(4, 1))
            self.refused(far - 1, far, 3, even_turns(4, 1))
            self.refused(3, 4, far, even_turns(4, 1))
            self.refused(3, 4, 3, [[0, 1, 2, far]])

    def test_stripes(self):
        for stripes in range(-2, 36):
            if 1 <= stripes <= 32:
                self.assertEqual(Shape(6, 8, stripes, even_turns(8, 1)).size, 6 * stripes)
            else:
                self.refused(6, 8, stripes, even_turns(8, 1))

    def test_how_many_turns(self):
        for many in range(20):
            turns = [[0, 1, 2]] * many
            if 1 <= many <= 16:
                self.assertEqual(Shape(2, 3, 4, turns).order_of(3), [0, 1, 2])
            else:
                self.refused(2, 3, 4, turns)

    def test_what_is_no_turn(self):
        good = [2, 0, 1, 3]
        for bad in ([0, 1, 2, 2], [0, 0, 0, 0], [0, 1, 2], [], [0, 1, 2, 3, 4], [0, 1, 2, 3, 3], [0, 1, 2, 4],
                    [-1, 0, 1, 2], [1, 2, 3, 4], [0, 1, 2, -1], [3, 2, 1, 10 ** 29]):
            self.refused(3, 4, 2, [bad])
            self.refused(3, 4, 2, [good, bad])
            self.refused(3, 4, 2, [bad, good])
            self.refused(2, 4, 1, [good] * 15 + [bad])

    def test_values(self):
        shape = Shape(5, 7, 32, even_turns(7, 3))
        self.assertEqual((shape.data, shape.planks, shape.stripes, shape.size), (5, 7, 32, 160))

    def test_stripes_take_the_turns_round(self):
        turns = [[0, 1, 2], [2, 1, 0], [1, 0, 2], [0, 2, 1], [2, 0, 1]]
        shape = Shape(1, 3, 13, turns)
        self.assertEqual([shape.order_of(stripe) for stripe in range(13)], (turns * 3)[:13])
        # More turns than stripes: those behind are taken too, and not used.
        self.assertEqual([Shape(1, 3, 2, turns).order_of(stripe) for stripe in range(2)], turns[:2])

    def test_turns_changed_later_change_nothing(self):
        turns = even_turns(4, 1)
        shape = Shape(3, 4, 8, turns)
        turns[1][0] = 77
        turns[2].clear()
        turns.pop()
        self.assertEqual([shape.order_of(stripe) for stripe in range(8)], even_turns(4, 1) * 2)
        shape.order_of(3).reverse()
        shape.order_of(3)[0] = 5
        self.assertEqual(shape.order_of(3), even_turns(4, 1)[3])
        self.assertEqual(shape.plank_of(7, 2), even_turns(4, 1)[3][2])

    def test_turns_are_not_changed(self):
        turns = even_turns(4, 3)
        shape = Shape(3, 4, 8, turns)
        for stripe in range(8):
            for one in range(4):
                shape.plank_of(stripe, one)
                shape.role_of(stripe, one)
        self.assertEqual(turns, even_turns(4, 3))

    def test_one_list_in_the_place_of_several_turns(self):
        turn = [1, 0]
        shape = Shape(1, 2, 3, [turn, turn])
        turn.reverse()
        self.assertEqual([shape.order_of(stripe) for stripe in range(3)], [[1, 0]] * 3)


class PlacesTest(unittest.TestCase):
    """Points 17 and 18."""

    def refused(self, place, method, *given):
        with self.assertRaises(NoPlace) as caught:
            method(*given)
        self.assertEqual(caught.exception.place, place)

    def test_places_there_and_back(self):
        for shape in shapes():
            seen = []
            for stripe in range(shape.stripes):
                for role in range(shape.data):
                    at = shape.number_of(stripe, role)
                    seen.append(at)
                    told = shape.place_of(at)
                    self.assertEqual((type(told), told), (tuple, (stripe, role)))
            self.assertEqual(seen, list(range(shape.size)))

    def test_places_of_no_block(self):
        for shape in shapes():
            for at in FAR + [shape.size, shape.size + 1, 10 ** 29]:
                self.refused(at, shape.place_of, at)

    def test_roles_and_planks_there_and_back(self):
        for shape in shapes():
            for stripe in range(shape.stripes):
                order = shape.order_of(stripe)
                self.assertEqual(sorted(order), list(range(shape.planks)))
                for role in range(shape.planks):
                    self.assertEqual(shape.plank_of(stripe, role), order[role])
                    self.assertEqual(shape.role_of(stripe, order[role]), role)

    def test_sum_roles_have_a_plank_and_no_place(self):
        shape = Shape(2, 4, 3, [[3, 2, 1, 0]])
        self.assertEqual([shape.plank_of(1, role) for role in range(4)], [3, 2, 1, 0])
        self.assertEqual([shape.role_of(1, plank) for plank in range(4)], [3, 2, 1, 0])
        for role in (2, 3, 4, -1, 10 ** 29, -(10 ** 29)):
            self.refused(role, shape.number_of, 2, role)
        for role in (4, 5, -1, 10 ** 29, -(10 ** 29)):
            self.refused(role, shape.plank_of, 0, role)
            self.refused(role, shape.role_of, 0, role)

    def test_the_stripe_is_refused_first(self):
        shape = Shape(3, 4, 6, even_turns(4, 1))
        for stripe in FAR + [6, 7, 10 ** 29]:
            self.refused(stripe, shape.order_of, stripe)
            for other in (0, 3, 4, -1, 99, 10 ** 28):
                self.refused(stripe, shape.number_of, stripe, other)
                self.refused(stripe, shape.plank_of, stripe, other)
                self.refused(stripe, shape.role_of, stripe, other)

    def test_kinds(self):
        shape = Shape(3, 4, 6, even_turns(4, 1))
        self.assertIs(type(shape.order_of(1)), list)
        for number in (shape.number_of(1, 1), shape.plank_of(1, 1), shape.role_of(1, 1)) + shape.place_of(7):
            self.assertIs(type(number), int)


class ComingRoundTest(unittest.TestCase):
    """Point 19."""

    def test_no_two_blocks_share_a_plank_in_a_stripe(self):
        for shape in shapes():
            seen = set()
            for at in range(shape.size):
                stripe, role = shape.place_of(at)
                seen.add((stripe, shape.plank_of(stripe, role)))
            self.assertEqual(len(seen), shape.size)
            left = [(stripe, shape.plank_of(stripe, role)) for stripe in range(shape.stripes)
                    for role in range(shape.data, shape.planks)]
            self.assertEqual(seen | set(left),
                             {(stripe, plank) for stripe in range(shape.stripes) for plank in range(shape.planks)})
            self.assertEqual(seen & set(left), set())

    def test_how_roles_come_round(self):
        for planks in range(2, 9):
            for step in STEPS:
                shape = Shape(planks - 1, planks, 3 * planks, even_turns(planks, step))
                common = math.gcd(step, planks)
                for first in range(2 * planks + 1):
                    for role in range(planks):
                        borne = [shape.plank_of(first + more, role) for more in range(planks)]
                        with self.subTest(planks=planks, step=step, first=first, role=role):
                            self.assertEqual(len(set(borne)), planks // common)
                            self.assertEqual({borne.count(plank) for plank in borne}, {common})


if __name__ == "__main__":
    unittest.main()
