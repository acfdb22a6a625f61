import itertools
import unittest

from joinedheaps.least.costs import cost_table, least_cost, least_tree
from tests.helper import (GREATEST, at_once, cheapest_down, cost_by_steps, depths_down, heaps_of_kinds, left_chain,
                          many_heaps, places_in, right_chain, slow_cheapest, slow_cost, slow_least, table_by_steps)


def small_heaps():
    """All heaps of up to six with the weights 0, 1 and 2, and of seven with 0 and 1."""
    rows = [heaps for many in range(1, 7) for heaps in itertools.product((0, 1, 2), repeat=many)]
    return rows + list(itertools.product((0, 1), repeat=7))


class LeastCost(unittest.TestCase):
    def test_one_heap(self):
        for weight in (0, 1, 5, GREATEST):
            self.assertEqual(least_cost((weight,)), 0)

    def test_two_heaps(self):
        for heaps in ((0, 0), (0, 7), (7, 0), (3, 4), (GREATEST, GREATEST)):
            self.assertEqual(least_cost(heaps), sum(heaps))

    def test_by_hand(self):
        self.assertEqual(least_cost((3, 0, 12)), 18)
        self.assertEqual(least_cost((1, 2, 3, 4)), 19)
        self.assertEqual(least_cost((4, 1, 1, 4)), 18)
        self.assertEqual(least_cost((1, 1, 1, 1)), 8)
        self.assertEqual(least_cost((1, 9, 1, 9)), 40)

    def test_all_small_heaps(self):
        for heaps in small_heaps():
            self.assertEqual(least_cost(heaps), slow_least(heaps), heaps)

    def test_up_to_eight_heaps_of_every_kind(self):
        for many in range(1, 9):
            for kind, rows in heaps_of_kinds(many).items():
                for heaps in rows:
                    self.assertEqual(least_cost(heaps), slow_least(heaps), (kind, heaps))

    def test_up_to_24_heaps_by_another_way(self):
        for many in range(1, 25):
            for kind, rows in heaps_of_kinds(many).items():
                for heaps in rows:
                    self.assertEqual(least_cost(heaps), cost_by_steps(heaps), (kind, heaps))

    def test_24_heaps(self):
        self.assertEqual(least_cost((0,) * 24), 0)
        self.assertEqual(least_cost((GREATEST,) * 24), GREATEST * (8 * 4 + 16 * 5))
        doubled = tuple(2 ** place for place in range(24))
        self.assertEqual(least_cost(doubled), sum(2 ** many - 1 for many in range(2, 25)))
        self.assertEqual(least_cost(doubled[::-1]), sum(2 ** many - 1 for many in range(2, 25)))

    def test_told_at_once(self):
        with at_once(10):
            for heaps in many_heaps(24) + many_heaps(40):
                least_cost(heaps)
                least_tree(heaps)
                cost_table(heaps)

    def test_greater_weights(self):
        self.assertEqual(least_cost((10 ** 12, 10 ** 30, 1)), 10 ** 12 + 2 * (10 ** 30 + 1))

    def test_kinds_and_the_same_asked_again(self):
        for many in (1, 2, 3, 24):
            for heaps in many_heaps(many):
                self.assertIs(type(least_cost(heaps)), int)
                self.assertEqual(least_cost(heaps), least_cost(heaps))


class LeastTree(unittest.TestCase):
    def test_one_and_two_heaps(self):
        for weight in (0, 1, GREATEST):
            self.assertEqual(least_tree((weight,)), 0)
            self.assertEqual(least_tree((weight, 3)), (0, 1))
            self.assertEqual(least_tree((weight, weight)), (0, 1))

    def test_by_hand(self):
        self.assertEqual(least_tree((3, 0, 12)), ((0, 1), 2))
        self.assertEqual(least_tree((12, 0, 3)), (0, (1, 2)))
        self.assertEqual(least_tree((1, 2, 3, 4)), (((0, 1), 2), 3))
        # Both trees cost the same: the depths 1 2 2 stand ahead of 2 2 1.
        self.assertEqual(least_tree((5, 1, 5)), (0, (1, 2)))
        self.assertEqual(least_tree((0, 0, 0)), (0, (1, 2)))
        # The depths 2 2 2 2 stand ahead of 3 3 2 1, but 1 3 3 2 ahead of 2 2 2 2.
        self.assertEqual(least_tree((1, 1, 2, 2)), ((0, 1), (2, 3)))
        self.assertEqual(least_tree((2, 1, 1, 2)), (0, ((1, 2), 3)))
        # One place of four is parted once more: the last one.
        self.assertEqual(least_tree((1, 1, 1, 1, 1)), ((0, 1), (2, (3, 4))))

    def test_all_small_heaps(self):
        for heaps in small_heaps():
            self.assertEqual(least_tree(heaps), slow_cheapest(heaps)[0], heaps)

    def test_up_to_eight_heaps_of_every_kind(self):
        for many in range(1, 9):
            for kind, rows in heaps_of_kinds(many).items():
                for heaps in rows:
                    self.assertEqual(least_tree(heaps), slow_cheapest(heaps)[0], (kind, heaps))

    def test_up_to_24_heaps_is_a_tree_with_the_least_cost(self):
        for many in range(1, 25):
            for heaps in many_heaps(many):
                tree = least_tree(heaps)
                self.assertEqual(places_in(tree), list(range(many)))
                self.assertEqual(slow_cost(heaps, tree), cost_by_steps(heaps))

    def test_up_to_24_heaps_with_several_cheapest_trees(self):
        for many in (9, 13, 17, 21, 24):
            kinds = heaps_of_kinds(many)
            for heaps in kinds["small"][1:] + kinds["one great"] + kinds["next to 10 ** 12"] + kinds["any"]:
                first = min(map(depths_down, cheapest_down(heaps, 0, many - 1)))
                self.assertEqual(depths_down(least_tree(heaps)), first, heaps)

    def test_alike_ones(self):
        for many in range(1, 25):
            # As many of the upper level as there can be, and these ahead.
            level = many.bit_length() - 1
            deep = 2 * (many - 2 ** level)
            depths = (level,) * (many - deep) + (level + 1,) * deep
            for weight in (1, 7, GREATEST):
                self.assertEqual(depths_down(least_tree((weight,) * many)), depths)

    def test_noughts(self):
        for many in range(1, 25):
            self.assertEqual(least_tree((0,) * many), right_chain(many))

    def test_doubled(self):
        for many in range(1, 25):
            doubled = tuple(2 ** place for place in range(many))
            self.assertEqual(least_tree(doubled), left_chain(many))
            self.assertEqual(least_tree(doubled[::-1]), right_chain(many))

    def test_the_same_asked_again(self):
        for many in (1, 2, 24):
            for heaps in many_heaps(many):
                self.assertEqual(least_tree(heaps), least_tree(heaps))


class CostTable(unittest.TestCase):
    def test_by_hand(self):
        self.assertEqual(cost_table((5,)), ((0,),))
        self.assertEqual(cost_table((3, 4)), ((0, 7), (0,)))
        self.assertEqual(cost_table((3, 0, 12)), ((0, 3, 18), (0, 12), (0,)))
        self.assertEqual(cost_table((4, 1, 1, 4)), ((0, 5, 8, 18), (0, 2, 8), (0, 5), (0,)))

    def test_each_entry_is_the_least_cost_of_its_stretch(self):
        for many in range(1, 9):
            for heaps in many_heaps(many):
                table = cost_table(heaps)
                self.shaped(table, many)
                for first, row in enumerate(table):
                    for more, entry in enumerate(row):
                        stretch = heaps[first:first + more + 1]
                        self.assertEqual(entry, slow_least(stretch), (heaps, first, more))
                        self.assertEqual(entry, least_cost(stretch))

    def test_up_to_24_heaps_by_another_way(self):
        for many in range(1, 25):
            for heaps in many_heaps(many)[::4]:
                table = cost_table(heaps)
                self.shaped(table, many)
                self.assertEqual(table, table_by_steps(heaps), heaps)
                self.assertEqual(table[0][-1], least_cost(heaps))

    def shaped(self, table, many):
        self.assertIs(type(table), tuple)
        self.assertEqual([len(row) for row in table], list(range(many, 0, -1)))
        for row in table:
            self.assertIs(type(row), tuple)
            for entry in row:
                self.assertIs(type(entry), int)

    def test_the_same_asked_again(self):
        for heaps in many_heaps(24):
            self.assertEqual(cost_table(heaps), cost_table(heaps))


if __name__ == "__main__":
    unittest.main()
