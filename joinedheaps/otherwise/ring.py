"""Heaps in a ring: the last one is the neighbour of the first."""

from joinedheaps.least.costs import least_cost


def ring_cost(heaps):
    """The least cost, and the first place at which the ring may be cut, so that the row from it on comes to it."""
    # Whatever is joined, two neighbours stay that no join needs as neighbours: there the ring may be cut.
    cuts = [(least_cost(heaps[place:] + heaps[:place]), place) for place in range(len(heaps))]
    return min(cuts, default=(0, 0))
