import functools
import unittest

from joinedheaps.otherwise.ring import ring_cost
from tests.helper import (GREATEST, all_rows, at_once, cost_by_steps, every_heaps, least_down, ring_by_all_cuts,
                          slow_least, turned)


@functools.lru_cache(maxsize=None)
def by_all_joins(heaps):
    """The least cost by joining neighbours in the ring, one join behind the other, in all ways."""
    if len(heaps) == 1:
        return 0
    return min(row[0] + row[1] + by_all_joins((row[0] + row[1],) + row[2:])
               for row in (turned(heaps, place) for place in range(len(heaps))))


class Ring(unittest.TestCase):
    def test_one_heap(self):
        for weight in (0, 1, GREATEST):
            self.assertEqual(ring_cost((weight,)), (0, 0))

    def test_two_heaps(self):
        for heaps in ((0, 0), (3, 4), (4, 3), (GREATEST, GREATEST)):
            self.assertEqual(ring_cost(heaps), (sum(heaps), 0))

    def test_by_hand(self):
        # The ring is cut next to the 9, whose neighbours are joined ahead.
        self.assertEqual(ring_cost((1, 9, 1)), (13, 1))
        self.assertEqual(ring_cost((9, 1, 1)), (13, 0))
        self.assertEqual(ring_cost((1, 1, 9)), (13, 0))
        # The ends are joined first, so that any cut but the one between them will do.
        self.assertEqual(ring_cost((1, 9, 9, 1)), (33, 1))
        # 2 and 1 are joined, then they and 5: the first cut that lets both is the one ahead of 6.
        self.assertEqual(ring_cost((1, 5, 6, 2)), (25, 2))

    def test_all_small_rings_by_all_joins(self):
        for many in range(1, 7):
            for heaps in all_rows(many, (0, 1, 2)):
                self.assertEqual(ring_cost(heaps)[0], by_all_joins(heaps), heaps)
                self.assertEqual(ring_cost(heaps), ring_by_all_cuts(heaps, slow_least), heaps)

    def test_up_to_six_heaps_by_all_joins(self):
        for many in range(1, 7):
            for heaps in every_heaps(many):
                self.assertEqual(ring_cost(heaps)[0], by_all_joins(heaps), heaps)

    def test_up_to_eight_heaps_by_all_cuts(self):
        for many in range(1, 9):
            for heaps in every_heaps(many)[::3]:
                self.assertEqual(ring_cost(heaps), ring_by_all_cuts(heaps, slow_least), heaps)

    def test_up_to_24_heaps_by_all_cuts(self):
        for many in range(9, 25):
            for heaps in every_heaps(many)[::6]:
                self.assertEqual(ring_cost(heaps), ring_by_all_cuts(heaps, cost_by_steps), heaps)

    def test_alike_ones(self):
        for many in range(1, 25):
            for weight in (0, 1, GREATEST):
                self.assertEqual(ring_cost((weight,) * many), (least_down((weight,) * many), 0))

    def test_turned_the_cost_is_the_same_and_the_place_is_the_first(self):
        for many in (5, 8, 24):
            for heaps in every_heaps(many)[::15]:
                cost = ring_cost(heaps)[0]
                cuts = [least_down(turned(heaps, place)) == cost for place in range(many)]
                for by in range(many):
                    self.assertEqual(ring_cost(turned(heaps, by)), (cost, turned(cuts, by).index(True)))

    def test_no_heaps(self):
        self.assertEqual(ring_cost(()), (0, 0))

    def test_24_heaps_at_once(self):
        with at_once(10):
            for heaps in every_heaps(24):
                told = ring_cost(heaps)
                self.assertIs(type(told), tuple)
                self.assertEqual([type(number) for number in told], [int, int])
                self.assertEqual(ring_cost(heaps), told)


if __name__ == "__main__":
    unittest.main()
