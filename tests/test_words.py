import itertools
import random
import unittest

from joinedheaps.errors import JoinError, NoTree, NoWord
from joinedheaps.trees.words import read_by, tree_by, words_of
from tests.helper import (all_trees, at_once, depths_down, halves, left_chain, no_trees, right_chain, sample_trees,
                          trees_with_depths)

SIGNS = [chr(number) for number in range(ord(" "), ord("~") + 1) if chr(number) != "%"] + ["\n"]


def slow_tree(depths):
    """The tree with these depths from the root down, or None: straight from what a depth is."""
    def part(place, depth):
        """A part that begins at a place, at a depth, and the place behind it; or None."""
        if place >= len(depths) or depths[place] < depth or depth > len(depths):
            return None
        if depths[place] == depth:
            return place, place + 1
        left = part(place, depth + 1)
        right = left and part(left[1], depth + 1)
        return right and ((left[0], right[0]), right[1])

    whole = part(0, 0)
    return whole[0] if whole and whole[1] == len(depths) else None


class TreeBy(unittest.TestCase):
    def refused(self, depths):
        with self.assertRaises(NoTree, msg=depths) as caught:
            tree_by(depths)
        self.assertIsInstance(caught.exception, JoinError)

    def told(self, depths):
        tree = slow_tree(depths)
        if tree is None:
            self.refused(depths)
        else:
            self.assertEqual(tree_by(depths), tree)

    def test_by_hand(self):
        self.assertEqual(tree_by((0,)), 0)
        self.assertEqual(tree_by((1, 1)), (0, 1))
        self.assertEqual(tree_by((1, 2, 2)), (0, (1, 2)))
        self.assertEqual(tree_by((2, 2, 1)), ((0, 1), 2))
        self.assertEqual(tree_by((2, 2, 2, 2)), ((0, 1), (2, 3)))
        self.assertEqual(tree_by((1, 3, 3, 2)), (0, ((1, 2), 3)))
        self.assertEqual(tree_by((3, 3, 2, 2, 2)), (((0, 1), 2), (3, 4)))

    def test_refused_by_hand(self):
        for depths in ((), (1,), (-1,), (2,), (0, 0), (0, 1), (1, 0), (1, 2), (2, 1), (2, 2), (-1, -1), (0, -1),
                       (1, 1, 1), (1, 1, 0), (0, 1, 1), (2, 1, 2), (1, 1, 2), (2, 2, 2), (0, 0, 0), (1, 1, 1, 1),
                       (2, 3, 1, 3), (3, 2, 3, 1), (2, 2, 1, 1), (1, 2, 2, 1), (1, 2, 2, 0), (0, 0, 1)):
            self.refused(depths)

    def test_all_small_depths(self):
        for many in range(6):
            for depths in itertools.product(range(-2, 6), repeat=many):
                self.told(depths)
        for depths in itertools.product(range(5), repeat=6):
            self.told(depths)

    def test_all_trees_of_up_to_nine_heaps(self):
        for many in range(1, 9):
            for depths, tree in trees_with_depths(many):
                self.assertEqual(tree_by(depths), tree)
        for tree in all_trees(0, 8):
            self.assertEqual(tree_by(depths_down(tree)), tree)

    def test_trees_of_up_to_30_heaps(self):
        for many in range(1, 31):
            for tree in sample_trees(many):
                self.assertEqual(tree_by(depths_down(tree)), tree)

    def test_depths_changed(self):
        for many in range(1, 31):
            for depths in map(depths_down, sample_trees(many)):
                self.told(depths[::-1])
                self.told(depths + depths)
                for at in range(many):
                    ahead, depth, behind = depths[:at], depths[at], depths[at + 1:]
                    # With one depth changed the sum of 2 ** -depth is no longer 1.
                    for other in (depth + 1, depth - 1, -1, -depth - 1, 10 ** 9, 10 ** 30, -10 ** 30):
                        self.refused(ahead + (other,) + behind)
                    self.refused(ahead + behind)
                    for more in (depth, 0, 1, depth + 1, many, -1, 10 ** 30):
                        self.refused(ahead + (more, depth) + behind)
                        self.refused(ahead + (depth, more) + behind)
                    for other in range(at):
                        exchanged = list(depths)
                        exchanged[at], exchanged[other] = exchanged[other], exchanged[at]
                        self.told(tuple(exchanged))

    def test_answered_at_once(self):
        with at_once(10):
            for many in (1, 2, 3, 29, 30):
                for depth in (10 ** 9, 10 ** 30, 10 ** 300, -10 ** 9, -10 ** 30):
                    self.refused((depth,) * many)
                    self.refused((1,) + (depth,) * many)
                    self.refused(tuple(range(depth, depth + many)))

    def test_somewhat_more(self):
        for tree in (left_chain(300), right_chain(300), halves(0, 299)):
            self.assertEqual(tree_by(depths_down(tree)), tree)

    def test_truths_are_no_depths(self):
        for depths in ((False,), (True, True), (1, True), (True, 1), (True, 2, 2)):
            self.refused(depths)

    def test_the_same_asked_again(self):
        for again in range(2):
            self.assertEqual(tree_by((1, 2, 2)), (0, (1, 2)))
            self.refused((1, 2, 1))


def slow_words(tree, word=""):
    if isinstance(tree, tuple):
        return slow_words(tree[0], word + "0") + slow_words(tree[1], word + "1")
    return (word,)


class WordsOf(unittest.TestCase):
    def test_by_hand(self):
        self.assertEqual(words_of(0, 1), ("",))
        self.assertEqual(words_of((0, 1), 2), ("0", "1"))
        self.assertEqual(words_of((0, (1, 2)), 3), ("0", "10", "11"))
        self.assertEqual(words_of(((0, 1), 2), 3), ("00", "01", "1"))
        self.assertEqual(words_of((0, ((1, 2), 3)), 4), ("0", "100", "101", "11"))

    def test_up_to_30_heaps(self):
        for many in range(1, 31):
            for tree in sample_trees(many):
                words = words_of(tree, many)
                self.assertEqual(words, slow_words(tree))
                self.assertEqual(len(words), many)
                self.assertEqual(words, tuple(sorted(words)))
                self.assertEqual(tuple(map(len, words)), depths_down(tree))
                for one, other in itertools.permutations(words, 2):
                    self.assertFalse(one.startswith(other))

    def test_kinds_and_the_same_asked_again(self):
        for many in (1, 2, 30):
            for tree in sample_trees(many):
                words = words_of(tree, many)
                self.assertIs(type(words), tuple)
                self.assertEqual({type(word) for word in words}, {str})
                self.assertEqual(words, words_of(tree, many))

    def refused(self, thing, many):
        with self.assertRaises(NoTree, msg=thing) as caught:
            words_of(thing, many)
        self.assertIsInstance(caught.exception, JoinError)

    def test_refused_where_it_is_no_tree(self):
        for many in (1, 2, 3, 4, 7, 24, 30):
            for things in no_trees(many).values():
                for thing in things:
                    self.refused(thing, many)
        self.refused(False, 1)
        self.refused((0, True), 2)

    def test_refused_with_a_wrong_number_of_heaps(self):
        for many in range(1, 31):
            for tree in sample_trees(many):
                for other in (many - 1, many + 1, many + 2, 2 * many, 10 ** 30, 10 ** 5000):
                    if other >= 1:
                        self.refused(tree, other)


def place_down(tree, text, begin):
    """The place that the signs from one on lead down to, and the sign behind them; or None."""
    part, at = tree, begin
    while isinstance(part, tuple):
        if at >= len(text) or text[at] not in "01":
            return None
        part = part[int(text[at])]
        at += 1
    return (part, at) if at > begin else None


def slow_read(tree, text):
    """The places, and None or the sign at which no word can be read."""
    places, begin = [], 0
    while begin < len(text):
        found = place_down(tree, text, begin)
        if found is None:
            return tuple(places), begin
        places.append(found[0])
        begin = found[1]
    return tuple(places), None


class ReadBy(unittest.TestCase):
    def setUp(self):
        # A reader that takes the empty word for one that is read would not come to an end.
        self.enterContext(at_once(10))

    def refused(self, words, text, place):
        with self.assertRaises(NoWord, msg=(words, text)) as caught:
            read_by(words, text)
        self.assertEqual(caught.exception.place, place, (words, text))
        self.assertIs(type(caught.exception.place), int)
        self.assertIsInstance(caught.exception, JoinError)

    def told(self, tree, text):
        places, fault = slow_read(tree, text)
        if fault is None:
            self.assertEqual(read_by(slow_words(tree), text), places)
        else:
            self.refused(slow_words(tree), text, fault)

    def test_by_hand(self):
        words = ("0", "10", "11")
        self.assertEqual(read_by(words, ""), ())
        self.assertEqual(read_by(words, "0"), (0,))
        self.assertEqual(read_by(words, "11"), (2,))
        self.assertEqual(read_by(words, "100110"), (1, 0, 2, 0))
        self.assertEqual(read_by(words, "000"), (0, 0, 0))
        for text, place in (("1", 0), ("01", 1), ("101", 2), ("0111", 3), ("2", 0), (" ", 0), ("0 0", 1), ("02", 1),
                            ("12", 0), ("1 0", 0), ("102", 2), ("1112", 2), ("\n", 0), ("0\n", 1), ("10\n", 2), ("x1", 0)):
            self.refused(words, text, place)

    def test_all_short_texts_by_all_small_trees(self):
        for many in range(1, 6):
            for tree in all_trees(0, many - 1):
                for length in range(6):
                    for signs in itertools.product("01 ", repeat=length):
                        self.told(tree, "".join(signs))
                for signs in itertools.product("01", repeat=8):
                    self.told(tree, "".join(signs))

    def test_words_put_together_are_read_back(self):
        chance = random.Random(14)
        for many in range(2, 31):
            for tree in sample_trees(many):
                words = words_of(tree, many)
                for length in (0, 1, 2, 13):
                    places = tuple(chance.randrange(many) for word in range(length))
                    self.assertEqual(read_by(words, "".join(words[place] for place in places)), places)
                self.assertEqual(read_by(words, "".join(words)), tuple(range(many)))

    def test_faults_in_words_put_together(self):
        chance = random.Random(15)
        for many in range(2, 31):
            for tree in sample_trees(many)[::2]:
                words = words_of(tree, many)
                places = [chance.randrange(many) for word in range(9)]
                text = "".join(words[place] for place in places)
                for at in range(len(text) + 1):
                    sign = chance.choice(SIGNS)
                    self.told(tree, text[:at])
                    self.told(tree, text[:at] + sign + text[at:])
                    self.told(tree, text[:at] + sign + text[at + 1:])

    def test_every_other_sign(self):
        words = words_of(((0, 1), 2), 3)
        for sign in SIGNS:
            if sign not in "01":
                for ahead, place in (("", 0), ("1", 1), ("00", 2), ("0", 0), ("10", 1), ("0100", 4), ("01000", 4)):
                    self.refused(words, ahead + sign, place)
                    self.refused(words, ahead + sign + "1", place)

    def test_one_heap(self):
        words = words_of(0, 1)
        self.assertEqual(read_by(words, ""), ())
        for sign in SIGNS:
            for text in (sign, sign + sign, sign + "01", "\n" + sign):
                self.refused(words, text, 0)

    def test_400_signs(self):
        for tree in (left_chain(30), right_chain(30), halves(0, 29), (0, 1)):
            for text in ("0" * 400, "1" * 400, "01" * 200, "0011" * 100, "1" * 399 + "2", "2" + "1" * 399):
                self.told(tree, text)

    def test_kinds_and_the_same_asked_again(self):
        words = ("0", "10", "11")
        for again in range(2):
            for text in ("", "0", "01011"):
                told = read_by(words, text)
                self.assertIs(type(told), tuple)
                self.assertEqual([type(place) for place in told], [int] * len(told))
                self.assertEqual(told, read_by(words, text))
            self.refused(words, "001", 2)
        self.assertEqual(words, ("0", "10", "11"))


if __name__ == "__main__":
    unittest.main()
