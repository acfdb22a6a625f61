"""Heaps of which several neighbours may be joined at once.

Ways are told by pairs (cost, joins); of two ways the one with the lesser pair is the better one.
"""

from joinedheaps.least.costs import stretches


def best_parted(known, most, first, length):
    """The best pair of a stretch that is joined to two to so many heaps."""
    parted = []
    for left in range(1, length):
        left_cost, left_joins = known[1, first, left]
        right_cost, right_joins = known[most - 1, first + left, length - left]
        parted.append((left_cost + right_cost, left_joins + right_joins))
    return min(parted)


def cost_by_several(heaps, most):
    """The least cost where two to so many neighbours are joined at once, and the least number of joins with it."""
    # No join is of fewer than two.
    most = max(2, most)
    # Known are the best pairs of stretches joined to one to so many heaps: (so many, first, length).
    known = {(many, first, 1): (0, 0) for many in range(1, most) for first in range(len(heaps))}
    for first, length in stretches(len(heaps)):
        cost, joins = best_parted(known, most, first, length)
        to_one = (cost + sum(heaps[first:first + length]), joins + 1)
        known[1, first, length] = to_one
        for many in range(2, most):
            known[many, first, length] = min(to_one, best_parted(known, many, first, length))
    return known.get((1, 0, len(heaps)), (0, 0))
