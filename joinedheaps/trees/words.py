"""Trees by the depths of their heaps, the words of the heaps, and texts read by them."""

from joinedheaps.errors import NoTree, NoWord
from joinedheaps.trees.joins import heap_words, is_whole, must_be_tree


def tree_by(depths):
    """The tree whose heaps have these depths; or NoTree."""
    waiting = []
    for place, told in enumerate(depths):
        depth, tree = told, place
        # Two neighbours at the same depth, the left one without its fellow as yet, are one pair's parts.
        while waiting and waiting[-1][0] == depth:
            left_depth, left = waiting.pop()
            depth, tree = left_depth - 1, (left, tree)
        waiting.append((depth, tree))
    if len(waiting) != 1 or waiting[0][0] != 0 or not all(is_whole(depth) for depth in depths):
        raise NoTree("no tree has these depths")
    return waiting[0][1]


def words_of(tree, many):
    """The words of the heaps in a tree of so many, from left to right; or NoTree."""
    must_be_tree(tree, many)
    return tuple(heap_words(tree))


def place_read(words, text, begin):
    """The place of the word that stands in a text from a sign on; or NoWord."""
    for place, word in enumerate(words):
        # The empty word of a single heap would be read again and again.
        if word != "" and text.startswith(word, begin):
            return place
    raise NoWord(begin)


def read_by(words, text):
    """The places of the heaps whose words, put together, are the text; or NoWord."""
    places = []
    begin = 0
    while begin < len(text):
        place = place_read(words, text, begin)
        places.append(place)
        begin += len(words[place])
    return tuple(places)
