"""What shows the least cost, and where a tree is dearer than it needs to be."""

from joinedheaps.least.costs import cost_table
from joinedheaps.trees.joins import is_whole, must_be_tree, parts_with_words


def table_shown(heaps, table):
    """Whether a table is the one of the least costs of all stretches of these heaps."""
    # True and False are equal to numbers, though they are none.
    return table == cost_table(heaps) and all(is_whole(entry) for row in table for entry in row)


def dear_part(heaps, tree):
    """The first pair that is dearer than its stretch needs, though neither part is: its first and last place.

    None where the tree is cheapest; NoTree where it is no tree of these heaps.
    """
    must_be_tree(tree, len(heaps))
    table = cost_table(heaps)
    found = None
    done = []
    # Backwards each part comes ahead of its pair, and the first pair of those looked for comes last.
    for part, word in reversed(parts_with_words(tree)):
        if isinstance(part, tuple):
            first, middle, left_cost = done.pop()
            behind, last, right_cost = done.pop()
            cost = left_cost + right_cost + sum(heaps[first:last + 1])
            done.append((first, last, cost))
            parts_cheap = left_cost == table[first][middle - first] and right_cost == table[behind][last - behind]
            if parts_cheap and cost > table[first][last - first]:
                found = (first, last)
        else:
            done.append((part, part, 0))
    return found
