import collections
import functools
import itertools
import unittest

from joinedheaps.least.costs import least_tree
from joinedheaps.least.counted import cheapest_trees, count_cheapest, count_of_cost, count_trees, dearest
from tests.helper import (GREATEST, all_trees, alike_depths, at_once, cheapest_down, costs_one_by_one, depths_down,
                          heaps_of_kinds, many_heaps, right_chain, slow_cheapest)

# How many trees there are of 1 to 24 heaps: the numbers of Catalan, as they stand in books.
CATALAN = (1, 1, 2, 5, 14, 42, 132, 429, 1430, 4862, 16796, 58786, 208012, 742900, 2674440, 9694845, 35357670,
           129644790, 477638700, 1767263190, 6564120420, 24466267020, 91482563640, 343059613650)


@functools.lru_cache(maxsize=None)
def slow_dearest(heaps):
    """The greatest cost from the root down: good for many heaps, too."""
    if len(heaps) == 1:
        return 0
    return sum(heaps) + max(slow_dearest(heaps[:cut]) + slow_dearest(heaps[cut:]) for cut in range(1, len(heaps)))


def several_heaps(many):
    """Heaps with several cheapest trees, but not too many to go through them."""
    kinds = heaps_of_kinds(many)
    return kinds["small"][1:] + kinds["one great"] + kinds["next to 10 ** 12"]


class CountCheapest(unittest.TestCase):
    def test_one_and_two_heaps(self):
        for weight in (0, 1, GREATEST):
            self.assertEqual(count_cheapest((weight,)), 1)
            self.assertEqual(count_cheapest((weight, 3)), 1)

    def test_by_hand(self):
        self.assertEqual(count_cheapest((3, 0, 12)), 1)
        self.assertEqual(count_cheapest((5, 1, 5)), 2)
        self.assertEqual(count_cheapest((1, 1, 2, 2)), 2)
        self.assertEqual(count_cheapest((1, 1, 1, 1)), 1)
        self.assertEqual(count_cheapest((1, 1, 1, 1, 1)), 4)
        self.assertEqual(count_cheapest((0, 0, 0, 0)), 5)

    def test_all_small_heaps(self):
        for many in range(1, 7):
            for heaps in itertools.product((0, 1, 2), repeat=many):
                self.assertEqual(count_cheapest(heaps), len(slow_cheapest(heaps)), heaps)

    def test_up_to_eight_heaps_of_every_kind(self):
        for many in range(1, 9):
            for heaps in many_heaps(many):
                self.assertEqual(count_cheapest(heaps), len(slow_cheapest(heaps)), heaps)

    def test_up_to_24_heaps(self):
        for many in (9, 13, 17, 21, 24):
            for heaps in several_heaps(many):
                self.assertEqual(count_cheapest(heaps), len(cheapest_down(heaps, 0, many - 1)), heaps)

    def test_alike_ones(self):
        for many in range(1, 25):
            for weight in (1, GREATEST):
                self.assertEqual(count_cheapest((weight,) * many), len(alike_depths(many)))

    def test_noughts(self):
        for many, trees in enumerate(CATALAN, start=1):
            self.assertEqual(count_cheapest((0,) * many), trees)

    def test_kinds_and_the_same_asked_again(self):
        with at_once(10):
            for many in (1, 2, 24):
                for heaps in many_heaps(many):
                    self.assertIs(type(count_cheapest(heaps)), int)
                    self.assertEqual(count_cheapest(heaps), count_cheapest(heaps))


class CheapestTrees(unittest.TestCase):
    def told(self, heaps, trees):
        """All of these trees, in this order, are the cheapest ones."""
        for many in sorted({0, 1, 2, 5, len(trees) - 1, len(trees), len(trees) + 1, 99, 100}):
            if many <= 100:
                self.assertEqual(cheapest_trees(heaps, many), trees[:many], (heaps, many))

    def test_one_and_two_heaps(self):
        for weight in (0, 1, GREATEST):
            self.told((weight,), [0])
            self.told((weight, weight), [(0, 1)])

    def test_by_hand(self):
        self.told((3, 0, 12), [((0, 1), 2)])
        self.told((5, 1, 5), [(0, (1, 2)), ((0, 1), 2)])
        self.told((1, 1, 2, 2), [((0, 1), (2, 3)), (((0, 1), 2), 3)])
        self.told((0, 0, 0, 0), [(0, (1, (2, 3))), (0, ((1, 2), 3)), ((0, 1), (2, 3)), ((0, (1, 2)), 3),
                                 (((0, 1), 2), 3)])

    def test_all_small_heaps(self):
        for many in range(1, 7):
            for heaps in itertools.product((0, 1, 2), repeat=many):
                self.told(heaps, slow_cheapest(heaps))

    def test_up_to_eight_heaps_of_every_kind(self):
        for many in range(1, 9):
            for heaps in many_heaps(many):
                self.told(heaps, slow_cheapest(heaps))

    def test_up_to_24_heaps(self):
        for many in (9, 13, 17, 21, 24):
            for heaps in several_heaps(many):
                self.told(heaps, sorted(cheapest_down(heaps, 0, many - 1), key=depths_down))

    def test_all_of_ten_noughts(self):
        trees = sorted(all_trees(0, 9), key=depths_down)
        for many in (1, 2, 99, 100, 1500):
            self.assertEqual(cheapest_trees((0,) * 10, many), trees[:many])

    def test_alike_ones(self):
        for many in range(1, 25):
            depths = alike_depths(many)
            for weight in (1, GREATEST):
                told = cheapest_trees((weight,) * many, 100)
                self.assertEqual([depths_down(tree) for tree in told], depths[:100])

    def test_24_noughts(self):
        with at_once(10):
            told = cheapest_trees((0,) * 24, 100)
        # There are 132 trees of the last seven heaps: the first hundred differ in these alone.
        expected = []
        for tree in sorted(all_trees(17, 23), key=depths_down)[:100]:
            for place in reversed(range(17)):
                tree = (place, tree)
            expected.append(tree)
        self.assertEqual(told, expected)
        self.assertEqual(told[0], right_chain(24))

    def test_the_first_is_the_least_tree(self):
        for many in range(1, 25):
            for heaps in many_heaps(many)[::3]:
                self.assertEqual(cheapest_trees(heaps, 1), [least_tree(heaps)])
                self.assertEqual(cheapest_trees(heaps, 7)[0], least_tree(heaps))

    def test_none_asked_for(self):
        for many in (1, 2, 3, 24):
            for heaps in many_heaps(many):
                self.assertEqual(cheapest_trees(heaps, 0), [])

    def test_the_list_is_the_askers_own(self):
        for heaps in ((4,), (5, 1, 5), (0,) * 6, (1,) * 24):
            for many in (0, 1, 3, 100):
                told = cheapest_trees(heaps, many)
                self.assertIs(type(told), list)
                before = list(told)
                told.reverse()
                told.append("mine")
                del told[0]
                again = cheapest_trees(heaps, many)
                self.assertEqual(again, before)
                again.clear()
                self.assertEqual(cheapest_trees(heaps, many), before)
                self.assertEqual(told[:-1], before[::-1][1:])


class Dearest(unittest.TestCase):
    def test_by_hand(self):
        for weight in (0, 1, GREATEST):
            self.assertEqual(dearest((weight,)), 0)
            self.assertEqual(dearest((weight, 3)), weight + 3)
        self.assertEqual(dearest((3, 0, 12)), 27)
        self.assertEqual(dearest((1, 2, 3, 4)), 26)
        self.assertEqual(dearest((1, 9, 1)), 21)

    def test_up_to_eight_heaps_of_every_kind(self):
        for many in range(1, 9):
            for heaps in many_heaps(many):
                self.assertEqual(dearest(heaps), max(costs_one_by_one(heaps)), heaps)

    def test_up_to_24_heaps(self):
        for many in range(9, 25):
            for heaps in many_heaps(many):
                self.assertEqual(dearest(heaps), slow_dearest(heaps), heaps)

    def test_24_heaps(self):
        with at_once(10):
            self.assertEqual(dearest((0,) * 24), 0)
            self.assertEqual(dearest((GREATEST,) * 24), GREATEST * sum(range(2, 25)))
            self.assertEqual(dearest(tuple(range(24))), sum(sum(range(first, 24)) for first in range(23)))

    def test_kinds_and_the_same_asked_again(self):
        for many in (1, 2, 24):
            for heaps in many_heaps(many):
                self.assertIs(type(dearest(heaps)), int)
                self.assertEqual(dearest(heaps), dearest(heaps))


class CountTrees(unittest.TestCase):
    def test_up_to_24_heaps(self):
        for many, trees in enumerate(CATALAN, start=1):
            self.assertEqual(count_trees(many), trees)
            self.assertIs(type(count_trees(many)), int)

    def test_up_to_nine_heaps_one_by_one(self):
        for many in range(1, 10):
            self.assertEqual(count_trees(many), len(all_trees(0, many - 1)))

    def test_somewhat_more(self):
        self.assertEqual(count_trees(25), 1289904147324)
        self.assertEqual(count_trees(31), 3814986502092304)


class CountOfCost(unittest.TestCase):
    def counted(self, heaps):
        counts = collections.Counter(costs_one_by_one(heaps))
        near = {cost + more for cost in counts for more in (-1, 0, 1)}
        for cost in sorted(near | {-10 ** 30, -1, 0, 1, sum(heaps), 10 ** 30}):
            told = count_of_cost(heaps, cost)
            self.assertEqual(told, counts[cost], (heaps, cost))
            self.assertIs(type(told), int)

    def test_by_hand(self):
        self.assertEqual([count_of_cost((6,), cost) for cost in (-1, 0, 1, 6)], [0, 1, 0, 0])
        self.assertEqual([count_of_cost((3, 4), cost) for cost in (-7, 0, 6, 7, 8)], [0, 0, 0, 1, 0])
        self.assertEqual([count_of_cost((3, 0, 12), cost) for cost in (17, 18, 19, 26, 27, 28)], [0, 1, 0, 0, 1, 0])
        self.assertEqual([count_of_cost((1, 1, 1, 1), cost) for cost in (7, 8, 9, 10)], [0, 1, 4, 0])
        self.assertEqual([count_of_cost((0, 0, 0, 0), cost) for cost in (-1, 0, 1)], [0, 5, 0])

    def test_all_small_heaps(self):
        for many in range(1, 6):
            for heaps in itertools.product((0, 1, 2), repeat=many):
                self.counted(heaps)

    def test_up_to_seven_heaps_of_every_kind(self):
        for many in range(1, 8):
            for heaps in many_heaps(many)[::2]:
                self.counted(heaps)

    def test_ten_heaps(self):
        for heaps in ((1,) * 10, (0,) * 10, (2, 0, 1, 1, 0, 2, 1, 0, 0, 1)):
            self.counted(heaps)
        self.assertEqual(count_of_cost((0,) * 10, 0), CATALAN[9])

    def test_ten_heaps_with_almost_as_many_costs_as_trees(self):
        heaps = heaps_of_kinds(10)["any"][0]
        counts = collections.Counter(costs_one_by_one(heaps))
        with at_once(10):
            for cost in sorted(counts)[::100]:
                self.assertEqual(count_of_cost(heaps, cost), counts[cost])
                self.assertEqual(count_of_cost(heaps, cost + 1), counts[cost + 1])

    def test_the_same_asked_again(self):
        for cost in (17, 18, 18, 27, 27, 18):
            self.assertEqual(count_of_cost((3, 0, 12), cost), int(cost in (18, 27)))


if __name__ == "__main__":
    unittest.main()
