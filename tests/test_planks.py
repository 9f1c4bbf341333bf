"""Point 28: the four kinds of planks."""

import unittest

from spareplank.planks import LostPlank, Plank, SlowPlank, SparePlank


class PlanksTest(unittest.TestCase):

    def test_words_and_prices(self):
        planks = [Plank([0, 1]), LostPlank(2), SparePlank([0, 1])]
        self.assertEqual([plank.word() for plank in planks], ["whole", "lost", "spare"])
        self.assertEqual([plank.price() for plank in planks], [1, 1, 1])
        for cost in range(2, 10):
            slow = SlowPlank([0, 1], cost)
            self.assertEqual((slow.word(), slow.price(), slow.cost), ("slow", cost, cost))

    def test_each_is_a_plank(self):
        for plank in (SlowPlank([0], 3), LostPlank(1), SparePlank([0])):
            self.assertIsInstance(plank, Plank)

    def test_where_they_are_there(self):
        for at in range(5):
            self.assertIs(Plank([None] * 5).there(at), True)
            self.assertIs(SlowPlank([None] * 5, 2).there(at), True)
            self.assertIs(LostPlank(5).there(at), False)
            self.assertIs(SparePlank([7] * 5).there(at), False)

    def test_a_spare_and_its_mark(self):
        spare = SparePlank([None, 5, None])
        for mark in range(4):
            self.assertEqual(spare.mark, mark)
            self.assertEqual([spare.there(at) for at in range(3)], [at < mark for at in range(3)])
            self.assertEqual((spare.word(), spare.price()), ("spare", 1))
            if mark < 3:
                self.assertIsNone(spare.move())
        self.assertEqual(spare.held, [None, 5, None])

    def test_looking_and_laying(self):
        for plank in (Plank([1, None, 3]), SlowPlank([1, None, 3], 9), SparePlank([1, None, 3])):
            self.assertEqual([plank.look_at(at) for at in range(3)], [1, None, 3])
            self.assertIsNone(plank.lay_at(1, 10 ** 38))
            plank.lay_at(2, None)
            self.assertEqual([plank.look_at(at) for at in range(3)], [1, 10 ** 38, None])
            self.assertEqual(plank.held, [1, 10 ** 38, None])

    def test_a_lost_plank_forgets(self):
        lost = LostPlank(3)
        self.assertEqual(lost.held, [None] * 3)
        self.assertIsNone(lost.lay_at(1, 5))
        self.assertEqual([lost.look_at(at) for at in range(3)], [None] * 3)
        self.assertEqual(lost.held, [None] * 3)

    def test_the_list_handed_in_is_copied(self):
        held = [1, 2, 3]
        planks = [Plank(held), SlowPlank(held, 4), SparePlank(held)]
        planks[0].lay_at(0, 9)
        self.assertEqual(held, [1, 2, 3])
        held[1] = 77
        held.pop()
        self.assertEqual([plank.held for plank in planks], [[9, 2, 3], [1, 2, 3], [1, 2, 3]])


if __name__ == "__main__":
    unittest.main()
