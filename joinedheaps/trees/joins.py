"""Trees of joined heaps: what is one, what it costs, how deep its heaps lie."""

from joinedheaps.errors import NoTree


def is_whole(thing):
    """Whether a thing is a whole number; True and False are none."""
    return isinstance(thing, int) and not isinstance(thing, bool)


def is_tree(thing, many):
    """Whether a thing is a tree of so many heaps."""
    awaited = 0
    waiting = [thing]
    # The first fault ends the walk. So a part that stands in the thing again and again
    # is not walked again and again: its second time begins with a place out of order.
    while waiting:
        part = waiting.pop()
        if isinstance(part, tuple):
            if len(part) != 2:
                return False
            left, right = part
            waiting.append(right)
            waiting.append(left)
        elif is_whole(part) and part == awaited:
            awaited += 1
        else:
            return False
    return awaited == many


def must_be_tree(thing, many):
    """Refuses with NoTree what is no tree of so many heaps."""
    # The text does not tell how many: Python refuses to write out a very great number.
    if not is_tree(thing, many):
        raise NoTree("no tree of so many heaps")


def parts_with_words(tree):
    """All parts of a tree, each ahead of its own ones, the left one's ahead of the right one's, with their words.

    A word has a 0 for each left part and a 1 for each right one on the way.
    """
    told = []
    waiting = [(tree, "")]
    while waiting:
        part, word = waiting.pop()
        told.append((part, word))
        if isinstance(part, tuple):
            left, right = part
            waiting.append((right, word + "1"))
            waiting.append((left, word + "0"))
    return told


def heap_words(tree):
    """The words of the heaps in a tree, from left to right."""
    return [word for part, word in parts_with_words(tree) if not isinstance(part, tuple)]


def depths_of(heaps, tree):
    """The depths of the heaps in a tree of them, from left to right; or NoTree."""
    must_be_tree(tree, len(heaps))
    return tuple(len(word) for word in heap_words(tree))


def cost_of(heaps, tree):
    """The cost of a tree of these heaps; or NoTree."""
    # Each weight is paid once for each pair that its heap lies in, so as often as it is deep.
    depths = depths_of(heaps, tree)
    return sum(weight * depth for weight, depth in zip(heaps, depths))
