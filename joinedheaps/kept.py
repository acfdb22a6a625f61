"""Heaps that are kept while they come and go at both ends."""

from joinedheaps.errors import NoHeaps, NoPlace
from joinedheaps.least.costs import cost_table
from joinedheaps.least.within import costs_by_depth


def must_be_weight(weight):
    """Refuses with NoHeaps a weight below 0."""
    if weight < 0:
        raise NoHeaps(0)


class KeptHeaps:
    """Heaps in a row, none at the begin."""

    def __init__(self):
        self.keep(())

    def keep(self, heaps):
        """Keeps these heaps from now on."""
        self.heaps = heaps
        # What was told of the former heaps is not true of these: it is reckoned afresh when it is asked.
        self.table = None
        self.by_depth = None

    def must_have_heaps(self):
        """Refuses with NoHeaps where there is none to take off."""
        if not self.heaps:
            raise NoHeaps(0)

    def put_left(self, weight):
        """Puts a heap at the left end; or NoHeaps."""
        must_be_weight(weight)
        self.keep((weight,) + self.heaps)

    def put_right(self, weight):
        """Puts a heap at the right end; or NoHeaps."""
        must_be_weight(weight)
        self.keep(self.heaps + (weight,))

    def take_left(self):
        """Takes the last heap at the left end off; or NoHeaps."""
        self.must_have_heaps()
        self.keep(self.heaps[1:])

    def take_right(self):
        """Takes the last heap at the right end off; or NoHeaps."""
        self.must_have_heaps()
        self.keep(self.heaps[:-1])

    def heaps_now(self):
        """The heaps that are kept."""
        return self.heaps

    def cost_now(self):
        """The least cost of the heaps that are kept, 0 of none."""
        return self.part_now(0, len(self.heaps) - 1) if self.heaps else 0

    def part_now(self, first, last):
        """The least cost of the stretch from a first to a last place; or NoPlace."""
        if not 0 <= first <= last < len(self.heaps):
            raise NoPlace("no such stretch of heaps is kept")
        if self.table is None:
            self.table = cost_table(self.heaps)
        return self.table[first][last - first]

    def within_now(self, bound):
        """The least cost without a heap deeper than the bound; None where there is none, 0 of no heaps."""
        if not self.heaps:
            return 0
        if bound < 0:
            return None
        if self.by_depth is None:
            self.by_depth = costs_by_depth(self.heaps)
        # The last of these costs is the least of all: no greater bound has a lesser one.
        return self.by_depth[min(bound, len(self.by_depth) - 1)]
