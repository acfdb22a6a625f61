"""How many trees there are, how many are cheapest or have a told cost, and the greatest cost."""

from joinedheaps.least.costs import cheapest_cuts, cost_table, first_cheapest, least_cost, stretches


def count_cheapest(heaps):
    """How many trees of these heaps have the least cost."""
    table = cost_table(heaps)
    counts = {(first, 1): 1 for first in range(len(heaps))}
    for first, length in stretches(len(heaps)):
        counts[first, length] = sum(
            counts[first, left] * counts[first + left, length - left]
            for left in cheapest_cuts(table, first, length))
    return counts.get((0, len(heaps)), 0)


def cheapest_trees(heaps, many):
    """The first so many of the cheapest trees, in the order of their depths; fewer where there are fewer."""
    return first_cheapest(heaps, many)


def dearest(heaps):
    """The greatest cost of all trees of these heaps."""
    # With each weight turned to its opposite each cost is too, and the greatest becomes the least.
    return -least_cost(tuple(-weight for weight in heaps))


def count_trees(many):
    """How many trees there are of so many heaps."""
    counts = [0, 1]
    for length in range(2, many + 1):
        counts.append(sum(counts[left] * counts[length - left] for left in range(1, length)))
    return counts[many]


def add_joined(counts, lefts, rights, weight):
    """Adds to the counts of costs those of the trees of a left and a right one, of so much weight together."""
    for left_cost, left_many in lefts.items():
        for right_cost, right_many in rights.items():
            cost = left_cost + right_cost + weight
            counts[cost] = counts.get(cost, 0) + left_many * right_many


def count_of_cost(heaps, cost):
    """How many trees of these heaps, few ones, have this cost."""
    known = {(first, 1): {0: 1} for first in range(len(heaps))}
    for first, length in stretches(len(heaps)):
        weight = sum(heaps[first:first + length])
        counts = {}
        for left in range(1, length):
            add_joined(counts, known[first, left], known[first + left, length - left], weight)
        known[first, length] = counts
    return known.get((0, len(heaps)), {}).get(cost, 0)
