"""The desk: heaps that are kept, changed and asked for by lines."""

from joinedheaps.errors import NoAsk
from joinedheaps.kept import KeptHeaps
from joinedheaps.least.costs import least_cost, least_tree
from joinedheaps.least.counted import count_cheapest
from joinedheaps.otherwise.anyorder import any_cost
from joinedheaps.otherwise.ring import ring_cost
from joinedheaps.otherwise.steps import steps_of
from joinedheaps.trees.joins import depths_of
from joinedheaps.trees.texts import heaps_shown, in_one_row, writes_number
from joinedheaps.trees.words import read_by, words_of

MOST_HEAPS = 24
MOST_FIGURES = 12


def tell_row(heaps):
    """The heaps in one row."""
    return [heaps_shown(heaps)] if heaps else []


def tell_cost(heaps):
    """The least cost."""
    return [str(least_cost(heaps))]


def tell_depths(heaps):
    """The depths of the first of the cheapest trees, in one row."""
    return [in_one_row(depths_of(heaps, least_tree(heaps)))] if heaps else []


def cheapest_words(heaps):
    """The words of the heaps in the first of the cheapest trees."""
    return words_of(least_tree(heaps), len(heaps)) if heaps else ()


def tell_words(heaps):
    """The words of the heaps, a row each."""
    return list(cheapest_words(heaps))


def tell_ways(heaps):
    """How many cheapest trees there are."""
    return [str(count_cheapest(heaps))]


def tell_ring(heaps):
    """The least cost in a ring, and the place to cut it."""
    return [in_one_row(ring_cost(heaps))]


def tell_any(heaps):
    """The least cost where any two heaps may be joined."""
    return [str(any_cost(heaps))]


def tell_steps(heaps):
    """The steps of the other way, a row each."""
    return [in_one_row(step) for step in steps_of(heaps)]


TELLERS = {"row": tell_row, "cost": tell_cost, "depths": tell_depths, "words": tell_words,
           "ways": tell_ways, "ring": tell_ring, "any": tell_any, "steps": tell_steps}


def tell_read(heaps, text):
    """The places that a text reads by the words of the heaps, in one row; or NoWord."""
    return [in_one_row(read_by(cheapest_words(heaps), text))]


def number_asked(word):
    """The number that a word of a line writes; or NoAsk."""
    if len(word) > MOST_FIGURES or not writes_number(word):
        raise NoAsk("a word of the line is no number of at most twelve figures")
    return int(word)


def weight_asked(kept, word):
    """The weight of a heap that is to be put to those kept; or NoAsk."""
    if len(kept.heaps_now()) >= MOST_HEAPS:
        raise NoAsk("no more heaps can be kept")
    return number_asked(word)


def tell_within(kept, bound):
    """The least cost with a bound on depth, or that there is none."""
    cost = kept.within_now(bound)
    return ["none" if cost is None else str(cost)]


def answer_words(kept, words):
    """Does and tells what the words of a line ask of the heaps kept; or NoAsk."""
    match words:
        case ["left", weight]:
            kept.put_left(weight_asked(kept, weight))
        case ["right", weight]:
            kept.put_right(weight_asked(kept, weight))
        case ["off", "left"]:
            kept.take_left()
        case ["off", "right"]:
            kept.take_right()
        case ["part", first, last]:
            return [str(kept.part_now(number_asked(first), number_asked(last)))]
        case ["within", depth]:
            return tell_within(kept, number_asked(depth))
        case other:
            raise NoAsk("the desk does not take such a line")
    return []


class Desk:
    """Keeps heaps and answers lines about them."""

    def __init__(self):
        self.kept = KeptHeaps()

    def ask(self, line):
        """What a line asks for, a list of texts; or NoAsk, and then as the parts refuse."""
        heaps = self.kept.heaps_now()
        if line in TELLERS:
            teller = TELLERS[line]
            return teller(heaps)
        word, blank, text = line.partition(" ")
        # A text may have blanks of its own, and be empty, but not be missing.
        if word == "read" and blank == " ":
            return tell_read(heaps, text)
        return answer_words(self.kept, line.split(" "))
