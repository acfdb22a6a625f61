"""The least costs of heaps and of their stretches, and the first of the cheapest trees.

A stretch is told by its first heap and by how many heaps it has.
"""


def row_of_costs(weights, later):
    """The least costs of the stretches that begin with the first weight; the rows behind it are known."""
    row = [0]
    together = weights[0]
    for last in range(1, len(weights)):
        together += weights[last]
        least = min(row[cut - 1] + later[cut - 1][last - cut] for cut in range(1, last + 1))
        row.append(together + least)
    return tuple(row)


def cost_table(heaps):
    """The least costs of all stretches: a row for each first heap, of the stretches of one heap, two, and so on."""
    # No use is made of weights being 0 or more: dearest hands in weights below 0.
    rows = []
    for first in reversed(range(len(heaps))):
        rows.insert(0, row_of_costs(heaps[first:], rows))
    return tuple(rows)


def least_cost(heaps):
    """The least cost of all trees of these heaps."""
    return cost_table(heaps)[0][-1] if heaps else 0


def stretches(many):
    """All stretches of two or more of so many heaps, the shorter ones first, so that parts stand ahead of wholes."""
    return [(first, length) for length in range(2, many + 1) for first in range(many - length + 1)]


def cheapest_cuts(table, first, length):
    """How many heaps may stand in the left part, that the stretch is joined at its least cost."""
    costs = [table[first][left - 1] + table[first + left][length - left - 1] for left in range(1, length)]
    least = min(costs)
    return [left for left, cost in enumerate(costs, start=1) if cost == least]


def pairs_joined(lefts, rights, most):
    """The first trees, at most so many, of a left and a right one: each with its depths, in the order of these."""
    joined = []
    for left_depths, left in lefts:
        for right_depths, right in rights:
            if len(joined) >= most:
                return joined
            depths = tuple([depth + 1 for depth in left_depths + right_depths])
            joined.append((depths, (left, right)))
    return joined


def depths_kept(entry):
    """The depths that are kept beside a tree."""
    depths, tree = entry
    return depths


def first_cheapest(heaps, most):
    """The first of the cheapest trees, at most so many, in the order of their depths."""
    table = cost_table(heaps)
    # Of each stretch the first so many are enough: whatever comes behind them in a part
    # comes behind so many in the whole.
    known = {(first, 1): [((0,), first)] for first in range(len(heaps))}
    for first, length in stretches(len(heaps)):
        found = []
        for left in cheapest_cuts(table, first, length):
            found += pairs_joined(known[first, left], known[first + left, length - left], most)
        known[first, length] = sorted(found, key=depths_kept)[:most]
    return [tree for depths, tree in known.get((0, len(heaps)), [])[:most]]


def least_tree(heaps):
    """Of all trees with the least cost the one whose depths are the first as tuples."""
    return first_cheapest(heaps, 1)[0]
