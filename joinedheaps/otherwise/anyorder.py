"""Heaps of which any two may be joined, not neighbours alone."""

from joinedheaps.least.costs import least_cost


def any_cost(heaps):
    """The least cost where any two may be joined."""
    weights = sorted(heaps)
    cost = 0
    while len(weights) > 1:
        # The two lightest ones are joined first: they are carried along the most.
        together = weights[0] + weights[1]
        weights = sorted([together] + weights[2:])
        cost += together
    return cost


def dearer_by(heaps):
    """By how much the least cost is greater where only neighbours may be joined."""
    return least_cost(heaps) - any_cost(heaps)


def fall_then_rise(heaps):
    """Whether the weights fall first and then rise, or do one of both alone; alike ones are let."""
    risen = False
    for place in range(1, len(heaps)):
        if heaps[place - 1] < heaps[place]:
            risen = True
        elif risen and heaps[place - 1] > heaps[place]:
            return False
    return True
