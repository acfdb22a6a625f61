import functools
import heapq
import itertools
import unittest

from joinedheaps.otherwise.several import cost_by_several
from tests.helper import GREATEST, all_rows, at_once, every_heaps, least_down


@functools.lru_cache(maxsize=None)
def by_all_joins(row, most):
    """The costs and numbers of joins of all ways, one join behind the other."""
    if len(row) == 1:
        return frozenset({(0, 0)})
    ways = set()
    for many in range(2, min(most, len(row)) + 1):
        for first in range(len(row) - many + 1):
            together = sum(row[first:first + many])
            rest = row[:first] + (together,) + row[first + many:]
            ways |= {(cost + together, joins + 1) for cost, joins in by_all_joins(rest, most)}
    return frozenset(ways)


@functools.lru_cache(maxsize=None)
def by_all_cuts(row, most):
    """The best of all ways, by all ways to part the row: for up to about a dozen heaps."""
    if len(row) == 1:
        return 0, 0
    found = []
    for many in range(1, most):
        for cuts in itertools.combinations(range(1, len(row)), many):
            edges = (0,) + cuts + (len(row),)
            parts = [by_all_cuts(row[first:last], most) for first, last in zip(edges, edges[1:])]
            found.append((sum(row) + sum(cost for cost, joins in parts), 1 + sum(joins for cost, joins in parts)))
    return min(found)


@functools.lru_cache(maxsize=None)
def parted_down(row, many, most):
    """The best of all ways to join a row to just so many heaps, from the root down: good for many heaps, too."""
    if len(row) < many:
        return None
    if many == 1:
        if len(row) == 1:
            return 0, 0
        cost, joins = min(filter(None, (parted_down(row, parts, most) for parts in range(2, most + 1))))
        return cost + sum(row), joins + 1
    found = []
    for cut in range(1, len(row) - many + 2):
        one, others = parted_down(row[-cut:], 1, most), parted_down(row[:-cut], many - 1, most)
        found.append((one[0] + others[0], one[1] + others[1]))
    return min(found)


def fewest_joins(many, most):
    return -((1 - many) // (most - 1))


def cost_of_alike(many, most):
    """Where all weigh 1 the neighbours do not matter: the lightest ones are joined first, so many at once,
    with heaps without weight to make up the number."""
    queue = [1] * many + [0] * (fewest_joins(many, most) * (most - 1) + 1 - many)
    heapq.heapify(queue)
    cost = 0
    while len(queue) > 1:
        together = sum(heapq.heappop(queue) for again in range(most))
        heapq.heappush(queue, together)
        cost += together
    return cost


class BySeveral(unittest.TestCase):
    def test_one_heap(self):
        for weight in (0, 1, GREATEST):
            for most in range(2, 7):
                self.assertEqual(cost_by_several((weight,), most), (0, 0))

    def test_two_heaps(self):
        for heaps in ((0, 0), (3, 4), (GREATEST, GREATEST)):
            for most in range(2, 7):
                self.assertEqual(cost_by_several(heaps, most), (sum(heaps), 1))

    def test_by_hand(self):
        self.assertEqual(cost_by_several((3, 0, 12), 2), (18, 2))
        self.assertEqual(cost_by_several((3, 0, 12), 3), (15, 1))
        # 1 and 1 ahead, then three at once; not three ahead and then two.
        self.assertEqual(cost_by_several((1, 1, 2, 3), 3), (9, 2))
        self.assertEqual(cost_by_several((5, 0, 0, 5), 3), (10, 2))
        self.assertEqual(cost_by_several((5, 0, 0, 5), 2), (15, 3))
        # Three at once in the midst cost nothing, two would leave four.
        self.assertEqual(cost_by_several((5, 0, 0, 0, 5), 3), (10, 2))
        self.assertEqual(cost_by_several((1, 1, 1, 1, 1), 3), (8, 2))

    def test_all_small_rows_by_all_joins(self):
        for many in range(1, 7):
            for heaps in all_rows(many, (0, 1, 2) if many < 6 else (0, 1)):
                for most in range(2, 7):
                    self.assertEqual(cost_by_several(heaps, most), min(by_all_joins(heaps, most)), (heaps, most))

    def test_up_to_six_heaps_by_all_joins(self):
        for many in range(1, 7):
            for heaps in every_heaps(many):
                for most in range(2, 7):
                    self.assertEqual(cost_by_several(heaps, most), min(by_all_joins(heaps, most)), (heaps, most))

    def test_more_heaps_by_all_cuts(self):
        for many in (7, 8, 10):
            for heaps in every_heaps(many)[::6]:
                for most in range(2, 7):
                    self.assertEqual(cost_by_several(heaps, most), by_all_cuts(heaps, most), (heaps, most))

    def test_up_to_24_heaps_by_another_way(self):
        for many in (11, 16, 21, 24):
            for heaps in every_heaps(many)[::7]:
                for most in (3, 4, 5, 6):
                    self.assertEqual(cost_by_several(heaps, most), parted_down(heaps, 1, most), (heaps, most))

    def test_two_at_a_time(self):
        for many in range(1, 25):
            for heaps in every_heaps(many)[::3]:
                self.assertEqual(cost_by_several(heaps, 2), (least_down(heaps), many - 1), heaps)

    def test_as_many_as_may_be_joined_at_once_and_one_more(self):
        for most in range(2, 7):
            for many in range(2, most + 1):
                for heaps in every_heaps(many):
                    self.assertEqual(cost_by_several(heaps, most), (sum(heaps), 1))
            for heaps in every_heaps(most + 1):
                lightest = min(one + other for one, other in zip(heaps, heaps[1:]))
                self.assertEqual(cost_by_several(heaps, most), (sum(heaps) + lightest, 2))

    def test_without_weight(self):
        for many in range(1, 25):
            for most in range(2, 7):
                self.assertEqual(cost_by_several((0,) * many, most), (0, fewest_joins(many, most)))

    def test_alike_ones(self):
        for many in range(1, 25):
            for most in range(2, 7):
                for weight in (1, 7, GREATEST):
                    self.assertEqual(cost_by_several((weight,) * many, most),
                                     (weight * cost_of_alike(many, most), fewest_joins(many, most)))

    def test_more_at_a_time_is_never_dearer(self):
        with at_once(30):
            for many in (7, 13, 24):
                for heaps in every_heaps(many):
                    costs = [cost_by_several(heaps, most)[0] for most in range(2, 7)]
                    self.assertEqual(costs, sorted(costs, reverse=True))
                    self.assertGreaterEqual(costs[-1], sum(heaps))

    def test_somewhat_beyond_the_limits(self):
        self.assertEqual(cost_by_several((1, 2, 3, 4), 1), (19, 3))
        self.assertEqual(cost_by_several((1, 2, 3, 4), 0), (19, 3))
        self.assertEqual(cost_by_several((), 3), (0, 0))
        self.assertEqual(cost_by_several(tuple(range(8)), 7), (29, 2))
        self.assertEqual(cost_by_several(tuple(range(8)), 30), (28, 1))

    def test_kinds_and_the_same_asked_again(self):
        for heaps in every_heaps(24)[::5]:
            for most in range(2, 7):
                told = cost_by_several(heaps, most)
                self.assertIs(type(told), tuple)
                self.assertEqual([type(number) for number in told], [int, int])
                self.assertEqual(cost_by_several(heaps, most), told)


if __name__ == "__main__":
    unittest.main()
