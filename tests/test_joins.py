import itertools
import unittest

from joinedheaps.errors import JoinError, NoTree
from joinedheaps.trees.joins import cost_of, depths_of, is_tree
from tests.helper import (GREATEST, all_trees, at_once, halves, left_chain, nested, no_trees, right_chain,
                          sample_heaps, sample_trees, slow_cost, slow_depths)


def small_things():
    """Things made of few tuples and of numbers about the places of three heaps."""
    flat = [(), -1, 0, 1, 2, 3]
    rows = [row for many in (1, 2) for row in itertools.product(flat, repeat=many)]
    rows += list(itertools.product((0, 1, 2), repeat=3))
    deep = [row for row in itertools.product(flat + rows, repeat=2)]
    return flat + rows + deep


class Looker(unittest.TestCase):
    def told(self, thing, many, truth):
        self.assertIs(is_tree(thing, many), truth, (thing, many))

    def test_a_place_alone(self):
        self.told(0, 1, True)
        for place in (-1, 1, 2, 10 ** 30, -10 ** 30):
            self.told(place, 1, False)
        for many in (2, 3, 24, 10 ** 30):
            self.told(0, many, False)
            self.told(1, many, False)
            self.told(many - 1, many, False)

    def test_chains_and_halves(self):
        for many in range(1, 25):
            for tree in (left_chain(many), right_chain(many), halves(0, many - 1)):
                self.told(tree, many, True)
                for other in (many - 1, many + 1, many + 2, 10 ** 30):
                    if other >= 1:
                        self.told(tree, other, False)

    def test_all_trees_of_up_to_seven_heaps(self):
        for many in range(1, 8):
            for tree in all_trees(0, many - 1):
                self.told(tree, many, True)
                self.told(tree, many + 1, False)

    def test_all_small_things(self):
        for many in (1, 2, 3, 4):
            trees = set(all_trees(0, many - 1))
            for thing in small_things():
                self.told(thing, many, thing in trees)

    def test_what_is_no_tree(self):
        for many in (1, 2, 3, 4, 7, 12, 24):
            for things in no_trees(many).values():
                for thing in things:
                    self.told(thing, many, False)

    def test_places_missing_twice_or_out_of_order(self):
        for thing in ((0, 2), ((0, 1), 3), (1, 2), (0, 0), ((0, 1), 1), (0, (0, 1)), ((0, 1), (1, 2)), (1, 0),
                      ((1, 0), 2), (2, (1, 0)), ((0, 2), 1), (1, (0, 2)), (0, (2, 1)), (-1, 0), (0, -1)):
            for many in range(1, 6):
                self.told(thing, many, False)

    def test_tuples_of_none_one_and_three(self):
        for thing in ((), (0,), (0, 1, 2), ((), ()), ((0,), 1), (0, (1,)), (0, ()), ((), 0), ((0, 1, 2), 3),
                      (0, (1, 2, 3)), ((0, 1),), (((0, 1), 2),), ((0, 1), (2,)), ((0, 1), 2, 3), (0, 1, ()), (0, 1, 2, 3)):
            for many in range(1, 6):
                self.told(thing, many, False)

    def test_truths_are_no_places(self):
        for thing, many in ((False, 1), ((0, True), 2), ((False, 1), 2), ((False, True), 2), (((0, True), 2), 3)):
            self.told(thing, many, False)

    def test_nested_to_60(self):
        for many in (1, 2, 60, 61, 10 ** 30):
            for thing in (nested(59), nested(60), nested(59, 0), nested(60, 0), (0, nested(59)), (nested(59), 1),
                          (nested(59, 0), 1), (0, nested(59, 1))):
                self.told(thing, many, False)
        for tree in (left_chain(61), right_chain(61)):
            self.told(tree, 61, True)
            for many in (1, 60, 62, 10 ** 30):
                self.told(tree, many, False)

    def test_somewhat_deeper_than_60(self):
        self.told(left_chain(300), 300, True)
        self.told(right_chain(300), 300, True)
        self.told(nested(300, 0), 1, False)

    def test_a_very_great_number_of_heaps(self):
        with at_once():
            for many in (10 ** 9, 10 ** 30, 10 ** 300):
                for thing in (0, many - 1, (0, 1), (0, many - 1), left_chain(61), right_chain(61), (), nested(60)):
                    self.told(thing, many, False)

    def test_parts_that_stand_in_a_thing_again_and_again(self):
        with at_once():
            for thing in ((), (0,), 0, (0, 1), 1):
                for level in range(60):
                    thing = (thing, thing)
                for many in (1, 2, 24, 2 ** 60, 2 ** 61):
                    self.told(thing, many, False)

    def test_the_same_asked_again(self):
        for thing in (0, (0, 1), (), (1, 0), left_chain(24)):
            for many in (1, 2, 24):
                self.assertIs(is_tree(thing, many), is_tree(thing, many))


class CostAndDepths(unittest.TestCase):
    def test_one_heap(self):
        for weight in (0, 1, 5, GREATEST):
            self.assertEqual(cost_of((weight,), 0), 0)
            self.assertEqual(depths_of((weight,), 0), (0,))

    def test_two_heaps(self):
        for heaps in ((0, 0), (0, 7), (7, 0), (3, 4), (GREATEST, GREATEST)):
            self.assertEqual(cost_of(heaps, (0, 1)), sum(heaps))
            self.assertEqual(depths_of(heaps, (0, 1)), (1, 1))

    def test_by_hand(self):
        self.assertEqual(cost_of((3, 0, 12), ((0, 1), 2)), 18)
        self.assertEqual(depths_of((3, 0, 12), ((0, 1), 2)), (2, 2, 1))
        self.assertEqual(cost_of((3, 0, 12), (0, (1, 2))), 27)
        self.assertEqual(depths_of((3, 0, 12), (0, (1, 2))), (1, 2, 2))
        self.assertEqual(cost_of((1, 2, 3, 4), ((0, 1), (2, 3))), 20)
        self.assertEqual(depths_of((1, 2, 3, 4), ((0, 1), (2, 3))), (2, 2, 2, 2))
        self.assertEqual(cost_of((1, 2, 3, 4), (0, ((1, 2), 3))), 24)
        self.assertEqual(depths_of((1, 2, 3, 4), (0, ((1, 2), 3))), (1, 3, 3, 2))

    def test_all_trees_of_up_to_six_heaps(self):
        for many in range(1, 7):
            for tree in all_trees(0, many - 1):
                for heaps in sample_heaps(many):
                    self.assertEqual(cost_of(heaps, tree), slow_cost(heaps, tree))
                    self.assertEqual(depths_of(heaps, tree), slow_depths(heaps, tree))

    def test_trees_of_up_to_24_heaps(self):
        for many in range(1, 25):
            for tree in sample_trees(many):
                for heaps in sample_heaps(many):
                    self.assertEqual(cost_of(heaps, tree), slow_cost(heaps, tree))
                    self.assertEqual(depths_of(heaps, tree), slow_depths(heaps, tree))

    def test_no_two_trees_have_the_same_depths(self):
        for many in range(1, 8):
            trees = all_trees(0, many - 1)
            self.assertEqual(len({depths_of((1,) * many, tree) for tree in trees}), len(trees))

    def test_somewhat_more_heaps(self):
        heaps = (1,) * 300
        self.assertEqual(depths_of(heaps, left_chain(300)), (299,) + tuple(range(299, 0, -1)))
        self.assertEqual(cost_of(heaps, right_chain(300)), sum(range(2, 301)))

    def test_refused_where_it_is_no_tree_of_these_heaps(self):
        for many in (1, 2, 3, 4, 7, 24):
            heaps = tuple(range(3, 3 + many))
            for things in no_trees(many).values():
                for thing in things:
                    self.refused(heaps, thing)

    def refused(self, heaps, thing):
        for ask in (cost_of, depths_of):
            with self.assertRaises(NoTree, msg=(heaps, thing)) as caught:
                ask(heaps, thing)
            self.assertIsInstance(caught.exception, JoinError)
            self.assertIs(type(str(caught.exception)), str)

    def test_refused_at_once(self):
        thing = 0
        for level in range(60):
            thing = (thing, thing)
        with at_once():
            self.refused((1, 2, 3), thing)

    def test_truths_are_no_places(self):
        self.refused((5,), False)
        self.refused((5, 6), (0, True))

    def test_the_good_tree_is_told_behind_a_refusal(self):
        heaps, tree = (4, 0, 9, GREATEST), ((0, 1), (2, 3))
        cost, depths = cost_of(heaps, tree), depths_of(heaps, tree)
        for things in no_trees(4).values():
            for thing in things:
                self.refused(heaps, thing)
                self.assertEqual(cost_of(heaps, tree), cost)
                self.assertEqual(depths_of(heaps, tree), depths)
        self.assertEqual((heaps, tree), ((4, 0, 9, GREATEST), ((0, 1), (2, 3))))

    def test_kinds_of_what_is_told(self):
        for many in (1, 2, 3, 24):
            for heaps in sample_heaps(many):
                for tree in sample_trees(many):
                    self.assertIs(type(cost_of(heaps, tree)), int)
                    depths = depths_of(heaps, tree)
                    self.assertIs(type(depths), tuple)
                    for depth in depths:
                        self.assertIs(type(depth), int)

    def test_the_same_asked_again(self):
        for many in (1, 2, 24):
            for heaps in sample_heaps(many):
                for tree in sample_trees(many):
                    self.assertEqual(cost_of(heaps, tree), cost_of(heaps, tree))
                    self.assertEqual(depths_of(heaps, tree), depths_of(heaps, tree))


if __name__ == "__main__":
    unittest.main()
