import functools
import itertools
import unittest

from joinedheaps.otherwise.anyorder import any_cost, dearer_by, fall_then_rise
from tests.helper import (GREATEST, all_rows, at_once, by_a_queue, every_heaps, heaps_in_patterns, least_down,
                          slow_least)


@functools.lru_cache(maxsize=None)
def by_all_joins(weights):
    """The least cost by joining any two, one join behind the other, in all ways; of sorted weights."""
    if len(weights) == 1:
        return 0
    costs = []
    for one, other in itertools.combinations(range(len(weights)), 2):
        rest = [weight for place, weight in enumerate(weights) if place not in (one, other)]
        together = weights[one] + weights[other]
        costs.append(together + by_all_joins(tuple(sorted(rest + [together]))))
    return min(costs)


def slow_bent(heaps):
    """Whether there is a place till which the weights never rise, and from which on they never fall."""
    return any(list(heaps[:place + 1]) == sorted(heaps[:place + 1], reverse=True)
               and list(heaps[place:]) == sorted(heaps[place:])
               for place in range(len(heaps)))


class AnyCost(unittest.TestCase):
    def setUp(self):
        self.enterContext(at_once(60))

    def test_one_and_two_heaps(self):
        for weight in (0, 1, GREATEST):
            self.assertEqual(any_cost((weight,)), 0)
            self.assertEqual(any_cost((weight, 3)), weight + 3)
            self.assertEqual(dearer_by((weight,)), 0)
            self.assertEqual(dearer_by((weight, 3)), 0)

    def test_by_hand(self):
        # 1 and 1 are joined over the 9 between them: 2, 11; neighbours cost 10, 11.
        self.assertEqual(any_cost((1, 9, 1)), 13)
        self.assertEqual(dearer_by((1, 9, 1)), 8)
        self.assertEqual(any_cost((1, 9, 1, 9)), 2 + 11 + 20)
        self.assertEqual(dearer_by((1, 9, 1, 9)), 40 - 33)
        self.assertEqual(any_cost((0, 5, 0, 5)), 15)
        self.assertEqual(any_cost((1, 1, 1, 1)), 8)
        self.assertEqual(any_cost((1, 2, 3, 4)), 19)
        self.assertEqual(any_cost((0, 0, 0)), 0)

    def test_all_rows_of_up_to_five_by_all_joins(self):
        for many in range(1, 6):
            for heaps in all_rows(many, (0, 1, 2, 5)):
                self.assertEqual(any_cost(heaps), by_all_joins(tuple(sorted(heaps))), heaps)

    def test_up_to_six_heaps_by_all_joins(self):
        for many in range(1, 7):
            for heaps in every_heaps(many):
                least = by_all_joins(tuple(sorted(heaps)))
                self.assertEqual(any_cost(heaps), least, heaps)
                self.assertEqual(dearer_by(heaps), slow_least(heaps) - least, heaps)

    def test_up_to_24_heaps(self):
        for many in range(1, 25):
            for heaps in every_heaps(many)[::2]:
                self.assertEqual(any_cost(heaps), by_a_queue(heaps), heaps)
                self.assertEqual(dearer_by(heaps), least_down(heaps) - by_a_queue(heaps), heaps)

    def test_alike_ones_and_noughts(self):
        for many in range(1, 25):
            level = many.bit_length() - 1
            deep = 2 * (many - 2 ** level)
            for weight in (0, 1, GREATEST):
                self.assertEqual(any_cost((weight,) * many), weight * (many * level + deep))
                self.assertEqual(dearer_by((weight,) * many), 0)

    def test_in_any_order_the_same(self):
        for heaps in every_heaps(24):
            self.assertEqual(any_cost(heaps), any_cost(tuple(sorted(heaps))))
            self.assertEqual(any_cost(heaps), any_cost(heaps[::-1]))

    def test_kinds(self):
        for many in (1, 2, 24):
            for heaps in every_heaps(many):
                self.assertIs(type(any_cost(heaps)), int)
                self.assertIs(type(dearer_by(heaps)), int)
                self.assertGreaterEqual(dearer_by(heaps), 0)


class FallThenRise(unittest.TestCase):
    def setUp(self):
        self.enterContext(at_once(60))

    def test_one_and_two_heaps(self):
        for heaps in ((0,), (7,), (GREATEST,), (0, 0), (0, 7), (7, 0), (7, 7)):
            self.assertIs(fall_then_rise(heaps), True)

    def test_by_hand(self):
        for heaps in ((3, 2, 1), (1, 2, 3), (3, 1, 2), (2, 2, 2), (3, 3, 1, 1, 2, 2), (1, 1, 2), (2, 1, 1), (2, 1, 1, 2),
                      (5, 0, 5), (0, 0, 0, 1), (1, 0, 0, 0), (GREATEST, 0, GREATEST)):
            self.assertIs(fall_then_rise(heaps), True, heaps)
        for heaps in ((1, 2, 1), (0, 1, 0), (1, 2, 2, 1), (3, 1, 2, 1), (3, 1, 2, 2, 1, 5), (1, 2, 1, 2), (2, 1, 2, 1),
                      (GREATEST - 1, GREATEST, GREATEST - 1), (1, 1, 2, 1, 1)):
            self.assertIs(fall_then_rise(heaps), False, heaps)

    def test_all_small_rows(self):
        for many in range(1, 8):
            for heaps in all_rows(many, (0, 1, 2) if many > 5 else (0, 1, 2, 3)):
                self.assertIs(fall_then_rise(heaps), slow_bent(heaps), heaps)

    def test_up_to_24_heaps(self):
        for many in range(1, 25):
            for heaps in every_heaps(many):
                self.assertIs(fall_then_rise(heaps), slow_bent(heaps), heaps)

    def test_one_weight_otherwise(self):
        bent = 0
        for many in (3, 4, 7, 24):
            rows = [heaps for heaps in heaps_in_patterns(many) if slow_bent(heaps)]
            rows += [tuple(range(many)), tuple(range(many, 0, -1)), (5,) * many]
            for heaps, place in itertools.product(rows, range(many)):
                for weight in (0, heaps[place] + 1, max(heaps[place] - 1, 0), max(heaps) + 1):
                    other = heaps[:place] + (weight,) + heaps[place + 1:]
                    self.assertIs(fall_then_rise(other), slow_bent(other), other)
                    bent += not slow_bent(other)
        self.assertGreater(bent, 1000)

    def test_then_both_costs_are_the_same(self):
        told = 0
        for many in range(1, 25):
            for heaps in every_heaps(many):
                if fall_then_rise(heaps):
                    self.assertEqual(dearer_by(heaps), 0, heaps)
                    told += many > 2
        self.assertGreater(told, 300)


if __name__ == "__main__":
    unittest.main()
