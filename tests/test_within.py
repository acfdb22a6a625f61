import unittest

from joinedheaps.least.costs import least_tree
from joinedheaps.least.within import costs_by_depth, least_depth, least_within
from tests.helper import (GREATEST, all_rows, at_once, cheapest_down, depths_down, every_heaps, heaps_of_kinds, halves,
                          least_down, left_chain, places_in, right_chain, slow_cheapest, slow_cost, slow_within,
                          within_down)

FAR = 10 ** 30


def small_rows():
    """All rows of up to six heaps with the weights 0, 1 and 2, and of seven with 0 and 1."""
    return [row for many in range(1, 7) for row in all_rows(many, (0, 1, 2))] + all_rows(7, (0, 1))


def slow_least_depth(heaps):
    return min(max(depths_down(tree)) for tree in slow_cheapest(heaps))


def needed(many):
    """The least bound with which there is a tree of so many heaps."""
    return (many - 1).bit_length()


class LeastWithin(unittest.TestCase):
    def setUp(self):
        self.enterContext(at_once(60))

    def test_one_heap(self):
        for weight in (0, 1, GREATEST):
            for bound in (0, 1, 2, 24, FAR):
                self.assertEqual(least_within((weight,), bound), (0, 0))

    def test_two_and_three_heaps(self):
        for heaps in ((0, 0), (3, 4), (GREATEST, GREATEST)):
            self.assertIsNone(least_within(heaps, 0))
            for bound in (1, 2, 3, FAR):
                self.assertEqual(least_within(heaps, bound), (sum(heaps), (0, 1)))
        for bound in (0, 1):
            self.assertIsNone(least_within((3, 0, 12), bound))
        for bound in (2, 3, FAR):
            self.assertEqual(least_within((3, 0, 12), bound), (18, ((0, 1), 2)))
            self.assertEqual(least_within((12, 0, 3), bound), (18, (0, (1, 2))))
            self.assertEqual(least_within((5, 1, 5), bound), (17, (0, (1, 2))))

    def test_by_hand(self):
        # Without a bound the chain costs 3 + 6 + 10.
        self.assertEqual(least_within((1, 2, 3, 4), 2), (20, ((0, 1), (2, 3))))
        self.assertEqual(least_within((1, 2, 3, 4), 3), (19, (((0, 1), 2), 3)))
        self.assertIsNone(least_within((0, 0, 0, 0), 1))
        self.assertEqual(least_within((0, 0, 0, 0), 2), (0, ((0, 1), (2, 3))))
        self.assertEqual(least_within((0, 0, 0, 0), 3), (0, (0, (1, (2, 3)))))

    def test_just_where_there_is_none(self):
        for many in list(range(1, 20)) + [24, 25, 31, 32, 33]:
            for weight in (0, 1):
                for bound in range(8):
                    told = least_within((weight,) * many, bound)
                    self.assertEqual(told is None, bound < needed(many), (many, bound))

    def test_all_small_heaps(self):
        for heaps in small_rows():
            for bound in range(len(heaps) + 1):
                self.assertEqual(least_within(heaps, bound), slow_within(heaps, bound), (heaps, bound))

    def test_up_to_eight_heaps_of_every_kind(self):
        for many in range(1, 9):
            for heaps in every_heaps(many):
                for bound in range(many + 1):
                    self.assertEqual(least_within(heaps, bound), slow_within(heaps, bound), (heaps, bound))

    def test_up_to_24_heaps_by_another_way(self):
        for many in (9, 12, 15, 16, 17, 20, 24):
            for heaps in every_heaps(many)[::5]:
                for bound in (needed(many) - 1, needed(many), needed(many) + 1, needed(many) + 3, many - 1):
                    told, awaited = least_within(heaps, bound), within_down(heaps, bound)
                    if awaited is None:
                        self.assertIsNone(told)
                        continue
                    cost, tree = told
                    self.assertEqual((cost, depths_down(tree)), awaited, (heaps, bound))
                    self.assertEqual(places_in(tree), list(range(many)))
                    self.assertEqual(slow_cost(heaps, tree), cost)

    def test_full_trees(self):
        for many in (2, 4, 8, 16):
            for heaps in every_heaps(many):
                tree = halves(0, many - 1)
                self.assertEqual(least_within(heaps, needed(many)), (slow_cost(heaps, tree), tree))

    def test_a_bound_that_keeps_no_tree_off(self):
        for many in (1, 2, 3, 5, 8, 12, 16, 20, 24):
            for heaps in every_heaps(many)[::8]:
                for bound in (many - 1, many, FAR):
                    self.assertEqual(least_within(heaps, bound), (least_down(heaps), least_tree(heaps)))

    def test_chains(self):
        for many in range(3, 25):
            doubled = tuple(2 ** place for place in range(many))
            cost, tree = least_within(doubled, many - 1)
            self.assertEqual((cost, tree), (slow_cost(doubled, left_chain(many)), left_chain(many)))
            self.assertGreaterEqual((least_within(doubled, many - 2) or (cost + 1,))[0], cost)
            self.assertEqual(least_within((0,) * many, many - 1), (0, right_chain(many)))

    def test_somewhat_beyond_the_limits(self):
        self.assertIsNone(least_within((5,), -1))
        self.assertIsNone(least_within((5, 6), -1))
        self.assertEqual(least_within((10 ** 30, 1, 1), 2), (10 ** 30 + 4, (0, (1, 2))))

    def test_kinds_and_the_same_asked_again(self):
        with at_once(30):
            for heaps in every_heaps(24)[::4]:
                for bound in (5, 9, 23):
                    told = least_within(heaps, bound)
                    self.assertIs(type(told), tuple)
                    self.assertIs(type(told[0]), int)
                    self.assertEqual(least_within(heaps, bound), told)


class ByDepth(unittest.TestCase):
    def setUp(self):
        self.enterContext(at_once(60))

    def test_one_to_four_heaps(self):
        for weight in (0, 1, GREATEST):
            self.assertEqual(least_depth((weight,)), 0)
            self.assertEqual(costs_by_depth((weight,)), (0,))
            self.assertEqual(least_depth((weight, 3)), 1)
            self.assertEqual(costs_by_depth((weight, 3)), (None, weight + 3))
        self.assertEqual(least_depth((3, 0, 12)), 2)
        self.assertEqual(costs_by_depth((3, 0, 12)), (None, None, 18))
        self.assertEqual(least_depth((1, 2, 3, 4)), 3)
        self.assertEqual(costs_by_depth((1, 2, 3, 4)), (None, None, 20, 19))
        # Of the cheapest trees of these one is flat, though the first one by its depths is not.
        self.assertEqual(least_depth((2, 1, 1, 2)), 2)
        self.assertEqual(costs_by_depth((2, 1, 1, 2)), (None, None, 12))
        self.assertEqual(least_depth((0, 0, 0, 0)), 2)
        self.assertEqual(costs_by_depth((0, 0, 0, 0)), (None, None, 0))

    def test_all_small_heaps(self):
        for heaps in small_rows():
            self.as_one_by_one(heaps)

    def test_up_to_eight_heaps_of_every_kind(self):
        for many in range(1, 9):
            for heaps in every_heaps(many):
                self.as_one_by_one(heaps)

    def as_one_by_one(self, heaps):
        depth = slow_least_depth(heaps)
        self.assertEqual(least_depth(heaps), depth, heaps)
        within = [slow_within(heaps, bound) for bound in range(depth + 1)]
        self.assertEqual(costs_by_depth(heaps), tuple(pair and pair[0] for pair in within), heaps)

    def test_up_to_24_heaps(self):
        for many in (9, 13, 16, 17, 21, 24):
            kinds = heaps_of_kinds(many)
            for heaps in kinds["small"][1:] + kinds["one great"] + kinds["any"] + kinds["doubled"]:
                depth = min(max(depths_down(tree)) for tree in cheapest_down(heaps, 0, many - 1))
                self.assertEqual(least_depth(heaps), depth, heaps)
                within = [within_down(heaps, bound) for bound in range(depth + 1)]
                self.assertEqual(costs_by_depth(heaps), tuple(pair and pair[0] for pair in within), heaps)

    def test_alike_ones(self):
        for many in range(1, 25):
            depth = needed(many)
            for weight in (0, 1, GREATEST):
                self.assertEqual(least_depth((weight,) * many), depth)
                self.assertEqual(costs_by_depth((weight,) * many), (None,) * depth + (least_down((weight,) * many),))

    def test_doubled(self):
        for many in range(1, 25):
            doubled = tuple(2 ** place for place in range(many))
            for heaps in (doubled, doubled[::-1]):
                costs = costs_by_depth(heaps)
                self.assertEqual(least_depth(heaps), many - 1)
                self.assertEqual(len(costs), many)
                self.assertEqual(costs[:needed(many)], (None,) * needed(many))
                self.assertEqual(costs[-1], least_down(heaps))
                told = costs[needed(many):]
                self.assertTrue(all(more > less for more, less in zip(told, told[1:])))

    def test_kinds_and_the_same_asked_again(self):
        with at_once(30):
            for heaps in every_heaps(24)[::4]:
                costs = costs_by_depth(heaps)
                self.assertIs(type(costs), tuple)
                self.assertLessEqual({type(cost) for cost in costs}, {int, type(None)})
                self.assertEqual(costs_by_depth(heaps), costs)
                self.assertIs(type(least_depth(heaps)), int)


if __name__ == "__main__":
    unittest.main()
