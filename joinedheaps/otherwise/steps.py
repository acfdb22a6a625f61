"""A cheapest tree by another way, step by step.

Each step joins two neighbours and may move their sum to the left. What it joins is no tree of neighbours,
but the depths that come of it are those of a cheapest one.
"""

from joinedheaps.trees.words import tree_by


def place_joined(row):
    """The least place whose weight is joined with the one ahead of it."""
    k = 1
    while k < len(row) - 1 and row[k - 1] > row[k + 1]:
        k += 1
    return k


def place_of_sum(row, k, together):
    """Where the sum stands behind the step: next to the nearest weight to the left that is not less."""
    place = k - 1
    while place > 0 and row[place - 1] < together:
        place -= 1
    return place


def steps_of(heaps):
    """The steps till one weight is left: each its place k, the sum, and the place where the sum stands behind it."""
    row = list(heaps)
    steps = []
    while len(row) > 1:
        k = place_joined(row)
        together = row[k - 1] + row[k]
        place = place_of_sum(row, k, together)
        del row[k - 1:k + 1]
        row.insert(place, together)
        steps.append((k, together, place))
    return tuple(steps)


def depths_by_steps(heaps):
    """In how many of the steps' sums each heap has gone."""
    depths = [0] * len(heaps)
    gone_in = [[heap] for heap in range(len(heaps))]
    for k, together, place in steps_of(heaps):
        joined = gone_in[k - 1] + gone_in[k]
        del gone_in[k - 1:k + 1]
        gone_in.insert(place, joined)
        for heap in joined:
            depths[heap] += 1
    return tuple(depths)


def tree_by_steps(heaps):
    """The cheapest tree with the depths that come of the steps."""
    return tree_by(depths_by_steps(heaps))
