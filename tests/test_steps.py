import unittest

from joinedheaps.otherwise.steps import depths_by_steps, steps_of, tree_by_steps
from tests.helper import (GREATEST, all_rows, at_once, depths_down, every_heaps, least_down, left_chain, places_in,
                          right_chain, slow_cheapest, slow_cost, slow_least, slow_steps)


class Steps(unittest.TestCase):
    def setUp(self):
        self.enterContext(at_once(60))

    def test_one_heap(self):
        for weight in (0, 1, GREATEST):
            self.assertEqual(steps_of((weight,)), ())

    def test_two_heaps(self):
        for heaps in ((0, 0), (3, 4), (4, 3), (0, 9), (GREATEST, GREATEST)):
            self.assertEqual(steps_of(heaps), ((1, sum(heaps), 0),))

    def test_three_heaps_by_hand(self):
        self.assertEqual(steps_of((1, 2, 3)), ((1, 3, 0), (1, 6, 0)))
        self.assertEqual(steps_of((3, 2, 1)), ((2, 3, 1), (1, 6, 0)))
        self.assertEqual(steps_of((4, 2, 1)), ((2, 3, 1), (1, 7, 0)))
        self.assertEqual(steps_of((2, 9, 1)), ((2, 10, 0), (1, 12, 0)))
        self.assertEqual(steps_of((0, 0, 0)), ((1, 0, 0), (1, 0, 0)))

    def test_where_a_weight_is_as_great_as_the_one_at_k_plus_1(self):
        # 2 at k - 1 is at most 2 at k + 1, so that k is 1 and not 2.
        self.assertEqual(steps_of((2, 9, 2))[0], (1, 11, 0))
        self.assertEqual(steps_of((3, 9, 2))[0], (2, 11, 0))
        self.assertEqual(steps_of((9, 5, 1, 5, 7))[0], (2, 6, 1))
        self.assertEqual(steps_of((9, 5, 1, 4, 7))[0], (3, 5, 2))

    def test_where_a_weight_is_as_great_as_the_sum(self):
        # 3 is not less than 2 + 1, so that the sum stays behind it; it is less than 2 + 2.
        self.assertEqual(steps_of((9, 3, 2, 1))[0], (3, 3, 2))
        self.assertEqual(steps_of((9, 3, 2, 2))[0], (3, 4, 1))
        self.assertEqual(steps_of((9, 4, 3, 2))[0], (3, 5, 1))
        self.assertEqual(steps_of((5, 4, 3, 2))[0], (3, 5, 1))
        self.assertEqual(steps_of((4, 4, 3, 2))[0], (3, 5, 0))
        # The nearest one counts, though farther ones are as great too.
        self.assertEqual(steps_of((8, 7, 6, 2, 3, 3))[0], (4, 5, 3))
        self.assertEqual(steps_of((8, 7, 5, 2, 3, 3))[0], (4, 5, 3))
        self.assertEqual(steps_of((8, 7, 4, 2, 3, 3))[0], (4, 5, 2))

    def test_many_steps_by_hand(self):
        # The rows are 5 4 1 2 3, 5 4 3 3, 6 5 4, 9 6, 15.
        self.assertEqual(steps_of((5, 4, 1, 2, 3)), ((3, 3, 2), (3, 6, 0), (2, 9, 0), (1, 15, 0)))
        # The rows are 3 23 4 3 3 5 19, 26 4 3 3 5 19, 26 6 4 5 19, 26 9 6 19, 26 15 19, 34 26, 60.
        self.assertEqual(steps_of((1, 2, 23, 4, 3, 3, 5, 19)),
                         ((1, 3, 0), (1, 26, 0), (3, 6, 1), (3, 9, 1), (2, 15, 1), (2, 34, 0), (1, 60, 0)))
        self.assertEqual(steps_of((1, 1, 1, 1)), ((1, 2, 0), (2, 2, 1), (1, 4, 0)))
        self.assertEqual(steps_of((0, 0, 0, 0)), ((1, 0, 0), (1, 0, 0), (1, 0, 0)))

    def test_all_small_heaps_step_by_step(self):
        for many in range(1, 8):
            for heaps in all_rows(many, (0, 1, 2) if many > 5 else (0, 1, 2, 3)):
                self.assertEqual(steps_of(heaps), slow_steps(heaps)[0], heaps)

    def test_up_to_24_heaps_step_by_step(self):
        for many in range(1, 25):
            for heaps in every_heaps(many):
                self.assertEqual(steps_of(heaps), slow_steps(heaps)[0], heaps)

    def test_doubled(self):
        for many in range(2, 25):
            doubled = tuple(2 ** place for place in range(many))
            sums = [2 ** place - 1 for place in range(2, many + 1)]
            self.assertEqual(steps_of(doubled), tuple((1, together, 0) for together in sums))
            self.assertEqual(steps_of(doubled[::-1]),
                             tuple((many - 1 - at, together, many - 2 - at) for at, together in enumerate(sums)))

    def test_kinds(self):
        for many in (1, 2, 24):
            for heaps in every_heaps(many):
                steps = steps_of(heaps)
                self.assertIs(type(steps), tuple)
                self.assertEqual(len(steps), many - 1)
                for step in steps:
                    self.assertIs(type(step), tuple)
                    self.assertEqual([type(number) for number in step], [int] * 3)
                self.assertEqual(steps_of(heaps), steps)

    def test_the_sums_together_are_the_least_cost(self):
        for many in range(1, 25):
            for heaps in every_heaps(many)[::3]:
                self.assertEqual(sum(together for k, together, place in steps_of(heaps)), least_down(heaps))


class DepthsAndTree(unittest.TestCase):
    def setUp(self):
        self.enterContext(at_once(60))

    def test_one_and_two_heaps(self):
        for weight in (0, 1, GREATEST):
            self.assertEqual(depths_by_steps((weight,)), (0,))
            self.assertEqual(tree_by_steps((weight,)), 0)
            self.assertEqual(depths_by_steps((weight, 3)), (1, 1))
            self.assertEqual(tree_by_steps((weight, 3)), (0, 1))

    def test_by_hand(self):
        # Both pairs cost the same: the steps join the left one, though the other tree's depths are the first.
        self.assertEqual(depths_by_steps((5, 1, 5)), (2, 2, 1))
        self.assertEqual(tree_by_steps((5, 1, 5)), ((0, 1), 2))
        self.assertEqual(depths_by_steps((0, 0, 0, 0)), (3, 3, 2, 1))
        # 1 and 2 are joined, they with 3, but then 5 and 4, and both sums.
        self.assertEqual(depths_by_steps((5, 4, 1, 2, 3)), (2, 2, 3, 3, 2))
        self.assertEqual(tree_by_steps((5, 4, 1, 2, 3)), ((0, 1), ((2, 3), 4)))
        # 4 and 5 are joined though they are no neighbours: the tree joins 4 and 3, 3 and 5 instead.
        self.assertEqual(depths_by_steps((1, 2, 23, 4, 3, 3, 5, 19)), (3, 3, 2, 4, 4, 4, 4, 2))
        self.assertEqual(tree_by_steps((1, 2, 23, 4, 3, 3, 5, 19)), (((0, 1), 2), (((3, 4), (5, 6)), 7)))

    def test_all_small_heaps(self):
        for many in range(1, 8):
            for heaps in all_rows(many, (0, 1, 2) if many < 7 else (0, 1)):
                self.assertEqual(depths_by_steps(heaps), slow_steps(heaps)[1], heaps)
                tree = tree_by_steps(heaps)
                self.assertEqual(depths_down(tree), depths_by_steps(heaps), heaps)
                self.assertIn(tree, slow_cheapest(heaps), heaps)

    def test_up_to_24_heaps(self):
        for many in range(1, 25):
            for heaps in every_heaps(many):
                depths, tree = depths_by_steps(heaps), tree_by_steps(heaps)
                self.assertEqual(depths, slow_steps(heaps)[1], heaps)
                self.assertEqual(depths_down(tree), depths, heaps)
                self.assertEqual(places_in(tree), list(range(many)))

    def test_the_cost_is_the_least_one(self):
        for many in range(1, 9):
            for heaps in every_heaps(many):
                self.assertEqual(slow_cost(heaps, tree_by_steps(heaps)), slow_least(heaps), heaps)
        for many in range(9, 25):
            for heaps in every_heaps(many)[::3]:
                self.assertEqual(slow_cost(heaps, tree_by_steps(heaps)), least_down(heaps), heaps)

    def test_doubled(self):
        for many in range(1, 25):
            doubled = tuple(2 ** place for place in range(many))
            self.assertEqual(tree_by_steps(doubled), left_chain(many))
            self.assertEqual(tree_by_steps(doubled[::-1]), right_chain(many))

    def test_kinds_and_the_same_asked_again(self):
        for heaps in every_heaps(24):
            depths = depths_by_steps(heaps)
            self.assertIs(type(depths), tuple)
            self.assertEqual({type(depth) for depth in depths}, {int})
            self.assertEqual(depths_by_steps(heaps), depths)
            self.assertEqual(tree_by_steps(heaps), tree_by_steps(heaps))


if __name__ == "__main__":
    unittest.main()
