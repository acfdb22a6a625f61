import itertools
import unittest

from joinedheaps.errors import JoinError, NoTree
from joinedheaps.least.costs import cost_table, least_tree
from joinedheaps.least.counted import cheapest_trees
from joinedheaps.least.shown import dear_part, table_shown
from tests.helper import (GREATEST, all_trees, at_once, left_chain, many_heaps, no_trees, pairs_in, places_in,
                          right_chain, sample_trees, slow_cost, slow_least, stretch_cost, table_by_steps)


def entries_changed(table, change):
    """Each table that comes of this one when one entry is changed."""
    for first, row in enumerate(table):
        for at, entry in enumerate(row):
            yield table[:first] + (row[:at] + (change(entry),) + row[at + 1:],) + table[first + 1:]


def rows_changed(table, change):
    """Each table that comes of this one when one row is changed to some rows."""
    for first, row in enumerate(table):
        yield table[:first] + change(row) + table[first + 1:]


def rows_exchanged(table):
    """Each table that comes of this one when two rows are exchanged."""
    for one, other in itertools.combinations(range(len(table)), 2):
        rows = list(table)
        rows[one], rows[other] = rows[other], rows[one]
        yield tuple(rows)


class TableShown(unittest.TestCase):
    def refused(self, heaps, tables):
        for table in tables:
            self.assertIs(table_shown(heaps, table), False, (heaps, table))

    def test_by_hand(self):
        self.assertIs(table_shown((5,), ((0,),)), True)
        self.assertIs(table_shown((3, 4), ((0, 7), (0,))), True)
        self.assertIs(table_shown((3, 0, 12), ((0, 3, 18), (0, 12), (0,))), True)
        # A dearer whole, though each entry is the cost of some tree.
        self.assertIs(table_shown((3, 0, 12), ((0, 3, 27), (0, 12), (0,))), False)
        self.refused((5,), ((), ((),), ((1,),), ((-1,),), ((5,),), ((0, 0),), ((0,), (0,)), ((0,), ()), ((), (0,))))

    def test_the_table_itself(self):
        for many in range(1, 25):
            for heaps in many_heaps(many)[::2]:
                self.assertIs(table_shown(heaps, table_by_steps(heaps)), True, heaps)
                self.assertIs(table_shown(heaps, cost_table(heaps)), True, heaps)

    def test_an_entry_changed(self):
        for many in (1, 2, 3, 5, 8, 24):
            for heaps in many_heaps(many)[::5]:
                table = table_by_steps(heaps)
                for change in (lambda entry: entry + 1, lambda entry: entry - 1, lambda entry: -entry - 1,
                               lambda entry: entry + 10 ** 30, lambda entry: 2 * entry + 3):
                    self.refused(heaps, entries_changed(table, change))

    def test_entries_that_fit_to_a_wrong_one(self):
        for heaps in many_heaps(5):
            # Each further entry is put together as it should be, from one that is wrong.
            for wrong in itertools.product(range(5), (1, 2, 3), (-1, 1)):
                self.refused(heaps, [self.fitted(heaps, *wrong)] if wrong[0] + wrong[1] <= 5 else [])

    def fitted(self, heaps, wrong_first, wrong_length, more):
        rows = [[0] * (len(heaps) - first) for first in range(len(heaps))]
        for length in range(1, len(heaps) + 1):
            for first in range(len(heaps) - length + 1):
                if length > 1:
                    rows[first][length - 1] = sum(heaps[first:first + length]) + min(
                        rows[first][left - 1] + rows[first + left][length - left - 1] for left in range(1, length))
                if (first, length) == (wrong_first, wrong_length):
                    rows[first][length - 1] += more
        return tuple(map(tuple, rows))

    def test_rows_changed(self):
        for many in (1, 2, 3, 5, 8, 24):
            for heaps in many_heaps(many)[::3]:
                table = table_by_steps(heaps)
                for change in (lambda row: (), lambda row: (row, row), lambda row: (row[:-1],), lambda row: (row[1:],),
                               lambda row: (row + (0,),), lambda row: (row + row[-1:],), lambda row: ((0,) + row,),
                               lambda row: ((),), lambda row: (row, ()), lambda row: ((), row), lambda row: (row, (0,))):
                    self.refused(heaps, rows_changed(table, change))
                self.refused(heaps, rows_exchanged(table))
                self.refused(heaps, [(), table + ((),), ((),) + table, table + table, ((),) * many])

    def test_a_table_of_no_rows(self):
        for many in (1, 2, 24):
            for heaps in many_heaps(many):
                self.refused(heaps, [(), ((),), ((), ())])

    def test_the_table_of_other_heaps(self):
        for many in range(1, 7):
            rows = many_heaps(many)
            for heaps, other in itertools.product(rows, repeat=2):
                table = table_by_steps(other)
                self.assertIs(table_shown(heaps, table), table == table_by_steps(heaps), (heaps, other))
            for heaps in rows:
                self.refused(heaps, [table_by_steps(heaps + (0,)), table_by_steps((0,) + heaps)])
                self.refused(heaps + (0,), [table_by_steps(heaps)])

    def test_the_table_turned_about(self):
        for many in range(2, 9):
            for heaps in many_heaps(many):
                table = table_by_steps(heaps)
                self.refused(heaps, [table[::-1]])
                for turned in (table_by_steps(heaps[::-1]), tuple(row[::-1] for row in table)):
                    self.assertIs(table_shown(heaps, turned), turned == table, heaps)

    def test_truths_are_no_entries(self):
        self.refused((5,), [((False,),)])
        self.refused((0, 1), [((0, True), (0,)), ((0, 1), (False,))])

    def test_the_same_asked_again(self):
        heaps = (4, 1, 1, 4)
        table = table_by_steps(heaps)
        for again in range(2):
            self.assertIs(table_shown(heaps, table), True)
            self.assertIs(table_shown(heaps, table[:-1]), False)
        self.assertEqual(table, table_by_steps(heaps))


def slow_dear_part(heaps, tree, least):
    """Straight from the document's words; least tells the least cost of a stretch."""
    def dear(part):
        places = places_in(part)
        return slow_cost(heaps, part) > least(heaps, places[0], places[-1])

    for pair in pairs_in(tree):
        if dear(pair) and not dear(pair[0]) and not dear(pair[1]):
            return places_in(pair)[0], places_in(pair)[-1]
    return None


def least_one_by_one(heaps, first, last):
    return slow_least(heaps[first:last + 1])


class DearPart(unittest.TestCase):
    def told(self, heaps, tree, least):
        part = dear_part(heaps, tree)
        self.assertEqual(part, slow_dear_part(heaps, tree, least), (heaps, tree))
        if part is not None:
            self.assertIs(type(part), tuple)
            self.assertEqual([type(place) for place in part], [int, int])

    def test_by_hand(self):
        self.assertIsNone(dear_part((5,), 0))
        self.assertIsNone(dear_part((5, 0), (0, 1)))
        self.assertIsNone(dear_part((3, 0, 12), ((0, 1), 2)))
        self.assertEqual(dear_part((3, 0, 12), (0, (1, 2))), (0, 2))
        # Both halves are dear, and so is the whole: the left half is told.
        heaps = (1, 1, 9, 1, 1, 9)
        self.assertEqual(dear_part(heaps, ((0, (1, 2)), (3, (4, 5)))), (0, 2))
        self.assertEqual(dear_part(heaps, (((0, 1), 2), (3, (4, 5)))), (3, 5))
        # Of a chain of dear pairs the innermost one.
        self.assertEqual(dear_part((1, 1, 1, 9), (0, (1, (2, 3)))), (1, 3))
        # No pair within is dear, but the whole is.
        self.assertEqual(dear_part((1, 1, 1, 1), (((0, 1), 2), 3)), (0, 3))

    def test_a_pair_stands_ahead_of_the_right_ones_parts(self):
        # Within the left part a deep pair is dear, within the right part a pair near to the root.
        heaps = (1, 1, 9, 30, 1, 1, 9)
        left, right = ((0, (1, 2)), 3), (4, (5, 6))
        self.assertEqual(dear_part(heaps, (left, right)), (0, 2))
        self.assertEqual(dear_part(heaps, ((((0, 1), 2), 3), right)), (4, 6))

    def test_all_trees_of_up_to_six_heaps(self):
        for many in range(1, 7):
            for heaps in many_heaps(many):
                for tree in all_trees(0, many - 1):
                    self.told(heaps, tree, least_one_by_one)

    def test_trees_of_seven_and_eight_heaps(self):
        for many in (7, 8):
            for heaps in many_heaps(many)[::4]:
                for tree in all_trees(0, many - 1)[::3]:
                    self.told(heaps, tree, least_one_by_one)

    def test_trees_of_up_to_24_heaps(self):
        for many in range(9, 25):
            for heaps in many_heaps(many)[::3]:
                for tree in sample_trees(many):
                    self.told(heaps, tree, stretch_cost)

    def test_none_of_cheapest_trees(self):
        for many in range(1, 25):
            for heaps in many_heaps(many)[::3]:
                for tree in [least_tree(heaps)] + cheapest_trees(heaps, 5):
                    self.assertIsNone(dear_part(heaps, tree), (heaps, tree))

    def test_told_at_once(self):
        with at_once(10):
            self.assertEqual(dear_part((1,) * 60, left_chain(60)), (0, 3))
            self.assertEqual(dear_part((1,) * 60, right_chain(60)), (56, 59))

    def refused(self, heaps, thing):
        with self.assertRaises(NoTree, msg=(heaps, thing)) as caught:
            dear_part(heaps, thing)
        self.assertIsInstance(caught.exception, JoinError)

    def test_refused_where_it_is_no_tree_of_these_heaps(self):
        for many in (1, 2, 3, 4, 7, 24):
            for things in no_trees(many).values():
                for thing in things:
                    self.refused((GREATEST,) * many, thing)
        self.refused((5,), False)
        self.refused((5, 6), (0, True))

    def test_the_same_asked_again(self):
        heaps, tree = (1, 1, 9, 1, 1, 9), ((0, (1, 2)), (3, (4, 5)))
        for again in range(2):
            self.assertEqual(dear_part(heaps, tree), (0, 2))
            self.refused(heaps, tree[0])


if __name__ == "__main__":
    unittest.main()
