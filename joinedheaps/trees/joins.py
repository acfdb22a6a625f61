"""Trees of joined heaps: what is one, what it costs, how deep its heaps lie."""

from joinedheaps.errors import NoTree


def is_whole(thing):
    """Whether a thing is a whole number; True and False are none."""
    return isinstance(thing, int) and not isinstance(thing, bool)


def is_tree(thing, many):
    """Whether a thing is a tree of so many heaps."""
    awaited = 0
    waiting = [thing]
    # The first fault ends the walk. So a part that stands in the thing again and again
    # is not walked again and again: its second time begins with a place out of order.
    while waiting:
        part = waiting.pop()
        if isinstance(part, tuple):
            if len(part) != 2:
                return False
            left, right = part
            waiting.append(right)
            waiting.append(left)
        elif is_whole(part) and part == awaited:
            awaited += 1
        else:
            return False
    return awaited == many


def depths_of(heaps, tree):
    """The depths of the heaps in a tree of them, from left to right; or NoTree."""
    if not is_tree(tree, len(heaps)):
        raise NoTree(f"no tree of so many heaps: {len(heaps)}")
    depths = []
    waiting = [(tree, 0)]
    while waiting:
        part, depth = waiting.pop()
        if isinstance(part, tuple):
            left, right = part
            waiting.append((right, depth + 1))
            waiting.append((left, depth + 1))
        else:
            depths.append(depth)
    return tuple(depths)


def cost_of(heaps, tree):
    """The cost of a tree of these heaps; or NoTree."""
    # Each weight is paid once for each pair that its heap lies in, so as often as it is deep.
    depths = depths_of(heaps, tree)
    return sum(weight * depth for weight, depth in zip(heaps, depths))
