"""The least costs of trees with a bound on the depths of their heaps.

Of a stretch that has trees within a bound a pair (cost, depths) is known, that of the first of the cheapest ones.
"""

from joinedheaps.least.costs import least_cost, stretches
from joinedheaps.trees.words import tree_by


def known_at_once(many):
    """What is known of the stretches of so many heaps with the bound 0: a heap alone is a tree."""
    return {(first, 1): (0, (0,)) for first in range(many)}


def best_of_parts(known, first, length):
    """The least cost of both parts of a stretch, and the first depths with it; None where no two parts are known."""
    costs = {}
    for left in range(1, length):
        if (first, left) in known and (first + left, length - left) in known:
            costs[left] = known[first, left][0] + known[first + left, length - left][0]
    if not costs:
        return None
    least = min(costs.values())
    return least, min([known[first, left][1] + known[first + left, length - left][1]
                       for left in costs if costs[left] == least])


def one_deeper(heaps, known):
    """What is known of the stretches with a bound, by what is known with the bound that is less by one."""
    deeper = known_at_once(len(heaps))
    for first, length in stretches(len(heaps)):
        parted = best_of_parts(known, first, length)
        if parted is not None:
            cost, depths = parted
            weight = sum(heaps[first:first + length])
            deeper[first, length] = (cost + weight, tuple([depth + 1 for depth in depths]))
    return deeper


def least_within(heaps, bound):
    """The least cost of all trees without a heap deeper than the bound, and the first such tree; None without any."""
    known = known_at_once(len(heaps))
    for level in range(bound):
        deeper = one_deeper(heaps, known)
        # Where a greater bound has changed nothing, no still greater one does, however far.
        if deeper == known:
            break
        known = deeper
    whole = (0, len(heaps))
    if bound < 0 or whole not in known:
        return None
    cost, depths = known[whole]
    return cost, tree_by(depths)


def costs_by_depth(heaps):
    """The least costs within the bounds from 0 on to the least depth of a cheapest tree, None where there is none."""
    costs = []
    least = least_cost(heaps)
    known = known_at_once(len(heaps))
    # The last bound that could be needed is one less than the heaps are many.
    for bound in range(len(heaps)):
        cost, depths = known.get((0, len(heaps)), (None, ()))
        costs.append(cost)
        if cost == least:
            break
        known = one_deeper(heaps, known)
    return tuple(costs)


def least_depth(heaps):
    """The least depth, of its deepest heap, that a cheapest tree has."""
    return len(costs_by_depth(heaps)) - 1
