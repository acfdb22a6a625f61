import itertools
import re
import unittest

from joinedheaps.errors import JoinError, NoHeaps
from joinedheaps.trees.texts import heaps_shown, read_heaps
from tests.helper import GREATEST, sample_heaps

WEIGHT = re.compile("0|[1-9][0-9]*")

# Words that are no weights, though some readers of numbers would take them.
NO_WEIGHTS = ("", "00", "01", "007", "000000000000", "+1", "-1", "-0", "+0", "+", "-", "1+", "1-2", "1+2",
              "a", "1a", "a1", "1a1", "0x1", "0b1", "1e3", "1.0", "1.", ".1", ".", "1,000", "1_0", "_1",
              "1\n", "\n1", "1\n2", "\n", "0\n", "~", "(1)", "1;", "None", "True", "'1'")

# Good words for the rows around a fault.
GOOD = ("3", "0", "12", str(GREATEST), "1")


def first_fault(text):
    """The place of the first word that is none, or None: straight from the document's words."""
    if text == "":
        return None
    for place, word in enumerate(text.split(" ")):
        if not WEIGHT.fullmatch(word):
            return place
    return None


class Texts(unittest.TestCase):
    def refused(self, text, place):
        with self.assertRaises(NoHeaps, msg=repr(text)) as caught:
            read_heaps(text)
        self.assertEqual(caught.exception.place, place, repr(text))
        self.assertIs(type(caught.exception.place), int)

    def test_read_and_shown_both_ways(self):
        for many in range(1, 25):
            for heaps in sample_heaps(many):
                text = " ".join(map(str, heaps))
                self.assertEqual(heaps_shown(heaps), text)
                self.assertEqual(read_heaps(text), heaps)
                self.assertEqual(heaps_shown(read_heaps(text)), text)
                self.assertEqual(read_heaps(heaps_shown(heaps)), heaps)

    def test_none(self):
        self.assertEqual(read_heaps(""), ())
        self.assertEqual(heaps_shown(()), "")

    def test_nought(self):
        for text, heaps in (("0", (0,)), ("0 0", (0, 0)), ("0 5", (0, 5)), ("5 0", (5, 0)), ("7 0 10", (7, 0, 10)),
                            ("10 100 0", (10, 100, 0))):
            self.assertEqual(read_heaps(text), heaps)
            self.assertEqual(heaps_shown(heaps), text)

    def test_kinds_of_what_is_told(self):
        for text in ("", "0", "1", "0 1", "12 3 999999999999"):
            heaps = read_heaps(text)
            self.assertIs(type(heaps), tuple)
            for weight in heaps:
                self.assertIs(type(weight), int)
            self.assertIs(type(heaps_shown(heaps)), str)

    def test_the_same_asked_again(self):
        for text in ("", "0", "3 0 12"):
            self.assertEqual(read_heaps(text), read_heaps(text))
        for text in (" ", "1 x 2 y"):
            for again in range(2):
                self.refused(text, first_fault(text))
        self.assertEqual(read_heaps("3 0 12"), (3, 0, 12))

    def test_a_fault_alone(self):
        for word in NO_WEIGHTS:
            if word:
                self.refused(word, 0)

    def test_a_fault_in_the_first_a_middle_and_the_last_word(self):
        for word in NO_WEIGHTS:
            for place in range(len(GOOD) + 1):
                words = GOOD[:place] + (word,) + GOOD[place:]
                self.refused(" ".join(words), place)

    def test_the_last_of_24_words(self):
        for word in NO_WEIGHTS:
            self.refused("1 " * 23 + word, 23)

    def test_two_faults(self):
        for one, other in itertools.product(NO_WEIGHTS, repeat=2):
            self.refused(" ".join((one, other)), 0)
            self.refused(" ".join(("4", one, "5", other, "6")), 1)

    def test_blanks(self):
        for text, place in ((" ", 0), ("  ", 0), (" 1", 0), ("1 ", 1), ("1 2 ", 2), ("1  2", 1), ("1 2  3", 2),
                            ("1   2", 1), (" 1 ", 0), ("1 2  x", 2), ("x  1", 0), ("0 ", 1), (" 0", 0)):
            self.refused(text, place)

    def test_every_other_sign(self):
        signs = [chr(number) for number in range(ord("!"), ord("~") + 1)] + ["\n"]
        for sign in signs:
            if sign in "0123456789":
                continue
            for word in (sign, sign + "1", "1" + sign, "1" + sign + "2"):
                self.refused(word, 0)
                self.refused("8 " + word + " 9", 1)

    def test_all_short_texts(self):
        for length in range(6):
            for signs in itertools.product("01 -\na", repeat=length):
                text = "".join(signs)
                place = first_fault(text)
                if place is None:
                    self.assertEqual(read_heaps(text), tuple(map(int, text.split())))
                    self.assertEqual(heaps_shown(read_heaps(text)), text)
                else:
                    self.refused(text, place)

    def test_beyond_the_limits_nothing_is_refused(self):
        heaps = (10 ** 12, 10 ** 20) + (1,) * 30
        self.assertEqual(read_heaps(heaps_shown(heaps)), heaps)

    def test_a_refusal_is_a_join_error(self):
        with self.assertRaises(JoinError):
            read_heaps("x")


if __name__ == "__main__":
    unittest.main()
