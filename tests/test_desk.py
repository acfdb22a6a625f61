import random
import unittest

from joinedheaps.errors import JoinError, NoAsk, NoHeaps, NoPlace, NoWord
from joinedheaps.whole import Desk
from tests.helper import (GREATEST, at_once, by_a_queue, cheapest_down, depths_down, every_heaps, least_down,
                          many_heaps, ring_by_all_cuts, slow_cheapest, slow_steps, within_down)

ASKS = ("row", "cost", "depths", "words", "ways", "ring", "any", "steps")


def desk_with(heaps):
    desk = Desk()
    for weight in heaps:
        desk.ask(f"right {weight}")
    return desk


def in_row(numbers):
    return " ".join(map(str, numbers))


def all_told(desk):
    """All that a desk tells, but for refusals."""
    many = len(desk.ask("row")[0].split(" ")) if desk.ask("row") else 0
    return ([desk.ask(line) for line in ASKS]
            + [desk.ask(f"part {first} {last}") for first in range(many) for last in range(first, many)]
            + [desk.ask(f"within {bound}") for bound in range(many + 2)])


def words_down(tree, word=""):
    if isinstance(tree, tuple):
        return words_down(tree[0], word + "0") + words_down(tree[1], word + "1")
    return [word]


def first_cheapest(heaps):
    """The first of the cheapest trees, for few heaps or few such trees."""
    if len(heaps) < 9:
        return slow_cheapest(heaps)[0]
    return min(cheapest_down(heaps, 0, len(heaps) - 1), key=depths_down)


class Told(unittest.TestCase):
    def test_no_heaps(self):
        desk = Desk()
        for line in ("row", "depths", "words", "steps"):
            self.assertEqual(desk.ask(line), [])
        for line in ("cost", "ways", "any", "within 0", "within 1", "within 999999999999"):
            self.assertEqual(desk.ask(line), ["0"])
        self.assertEqual(desk.ask("ring"), ["0 0"])
        self.assertEqual(desk.ask("read "), [""])

    def test_one_heap(self):
        for weight in (0, 5, GREATEST):
            desk = Desk()
            self.assertEqual(desk.ask(f"left {weight}"), [])
            self.assertEqual(desk.ask("row"), [str(weight)])
            for line in ("cost", "depths", "any", "part 0 0", "within 0", "within 5"):
                self.assertEqual(desk.ask(line), ["0"])
            self.assertEqual(desk.ask("words"), [""])
            self.assertEqual(desk.ask("ways"), ["1"])
            self.assertEqual(desk.ask("ring"), ["0 0"])
            self.assertEqual(desk.ask("steps"), [])
            self.assertEqual(desk.ask("read "), [""])

    def test_by_hand(self):
        desk = Desk()
        for line in ("right 5", "left 1", "left 5", "right 0", "off right"):
            self.assertEqual(desk.ask(line), [])
        self.assertEqual(desk.ask("row"), ["5 1 5"])
        self.assertEqual(desk.ask("cost"), ["17"])
        self.assertEqual(desk.ask("part 0 1"), ["6"])
        self.assertEqual(desk.ask("part 1 1"), ["0"])
        self.assertEqual(desk.ask("part 0 2"), ["17"])
        self.assertEqual(desk.ask("within 1"), ["none"])
        self.assertEqual(desk.ask("within 2"), ["17"])
        self.assertEqual(desk.ask("depths"), ["1 2 2"])
        self.assertEqual(desk.ask("words"), ["0", "10", "11"])
        self.assertEqual(desk.ask("ways"), ["2"])
        self.assertEqual(desk.ask("ring"), ["17 0"])
        self.assertEqual(desk.ask("any"), ["17"])
        self.assertEqual(desk.ask("steps"), ["1 6 0", "1 11 0"])
        self.assertEqual(desk.ask("read 100011"), ["1 0 0 2"])
        self.assertEqual(desk.ask("read 0"), ["0"])
        self.assertEqual(desk.ask("off left"), [])
        self.assertEqual(desk.ask("row"), ["1 5"])
        self.assertEqual(desk.ask("words"), ["0", "1"])

    def test_neighbours_ring_and_any_order_differ(self):
        desk = desk_with((1, 9, 1, 9, 1))
        self.assertEqual(desk.ask("cost"), ["52"])
        self.assertEqual(desk.ask("ring"), ["44 1"])
        self.assertEqual(desk.ask("any"), ["38"])

    def test_up_to_seven_heaps(self):
        for many in range(1, 8):
            for heaps in every_heaps(many)[::2]:
                self.as_reckoned(heaps, len(slow_cheapest(heaps)))

    def test_up_to_24_heaps(self):
        for many in (9, 17, 24):
            for heaps in many_heaps(many)[1:7]:
                self.as_reckoned(heaps, len(cheapest_down(heaps, 0, many - 1)))

    def as_reckoned(self, heaps, ways):
        desk = desk_with(heaps)
        tree = first_cheapest(heaps)
        words = words_down(tree)
        self.assertEqual(desk.ask("row"), [in_row(heaps)])
        self.assertEqual(desk.ask("cost"), [str(least_down(heaps))])
        self.assertEqual(desk.ask("depths"), [in_row(depths_down(tree))])
        self.assertEqual(desk.ask("words"), words)
        self.assertEqual(desk.ask("ways"), [str(ways)])
        self.assertEqual(desk.ask("ring"), [in_row(ring_by_all_cuts(heaps, least_down))])
        self.assertEqual(desk.ask("any"), [str(by_a_queue(heaps))])
        self.assertEqual(desk.ask("steps"), [in_row(step) for step in slow_steps(heaps)[0]])
        for bound in (0, 1, 2, 3, 4, 5, 8):
            within = within_down(heaps, bound)
            self.assertEqual(desk.ask(f"within {bound}"), [str(within[0]) if within else "none"])
        for first, last in ((0, 0), (0, len(heaps) - 1), (len(heaps) // 3, len(heaps) // 2)):
            self.assertEqual(desk.ask(f"part {first} {last}"), [str(least_down(heaps[first:last + 1]))])
        if len(heaps) > 1:
            places = list(range(len(heaps))) + [0, 0, len(heaps) - 1]
            self.assertEqual(desk.ask("read " + "".join(words[place] for place in places)), [in_row(places)])

    def test_24_heaps_of_patterns_at_once(self):
        with at_once(20):
            for heaps in every_heaps(24)[::5]:
                self.assertEqual(all_told(desk_with(heaps))[0], [in_row(heaps)])

    def test_greatest_numbers(self):
        desk = desk_with((GREATEST, GREATEST))
        self.assertEqual(desk.ask("row"), ["999999999999 999999999999"])
        self.assertEqual(desk.ask("cost"), ["1999999999998"])
        self.assertEqual(desk.ask("within 999999999999"), ["1999999999998"])

    def test_kinds(self):
        for heaps in ((), (5,), (3, 4, 5)):
            for answer in all_told(desk_with(heaps)) + [Desk().ask("left 5"), desk_with((1,)).ask("off right")]:
                self.assertIs(type(answer), list)
                self.assertLessEqual({type(row) for row in answer}, {str})


class Refused(unittest.TestCase):
    def refuses(self, desk, line, error, place=None):
        before = all_told(desk)
        with self.assertRaises(JoinError, msg=line) as caught:
            desk.ask(line)
        self.assertIs(type(caught.exception), error, line)
        if place is not None:
            self.assertEqual(caught.exception.place, place, line)
        self.assertEqual(all_told(desk), before, line)

    def test_other_lines(self):
        lines = ["", " ", "  ", "\n", "rows", "Row", "ROW", "heaps", "put 5", "take left", "off", "left", "right", "part",
                 "within", "read", "off up", "off 1", "off Left", "left right", "1", "none", "help", "ro", "_", "-", "~",
                 "row\n", "\nrow", "cost\n", "row\ncost", "off left\n", "off\nleft", "READ 0", "read\n0"]
        for heaps in ((), (5,), (3, 4, 5)):
            desk = desk_with(heaps)
            for line in lines:
                self.refuses(desk, line, NoAsk)

    def test_too_many_or_too_few_words_and_blanks(self):
        taken = list(ASKS) + ["left 5", "right 5", "off left", "off right", "part 0 1", "within 2"]
        desk = desk_with((3, 4, 5))
        for line in taken:
            for other in (" " + line, line + " ", line + " 1", line + " row", line + "  ", line + "\n"):
                self.refuses(desk, other, NoAsk)
            if " " in line:
                self.refuses(desk, line.replace(" ", "  "), NoAsk)
                self.refuses(desk, line.replace(" ", ""), NoAsk)
                self.refuses(desk, line.replace(" ", "\n"), NoAsk)
                self.refuses(desk, line.rsplit(" ", 1)[0], NoAsk)
                self.refuses(desk, line.rsplit(" ", 1)[0] + " ", NoAsk)
        self.refuses(desk, " read 0", NoAsk)

    def test_numbers_that_are_none(self):
        wrong = ["00", "01", "05", "007", "+1", "-1", "-0", "+0", "1.0", "1e3", "0x1", "1_000", "a", "1a", "a1", "one",
                 "", "1,0", "0 ", "1\n", "\n1", "none", "True", "1000000000000", "9999999999999", "0000000000001",
                 "1" * 300]
        desk = desk_with((3, 4, 5))
        for word in wrong:
            for line in ("left {}", "right {}", "within {}", "part {} 1", "part 0 {}", "part {} {}"):
                self.refuses(desk, line.replace("{}", word), NoAsk)

    def test_twelve_figures_and_thirteen(self):
        desk = Desk()
        self.refuses(desk, "left 1000000000000", NoAsk)
        self.assertEqual(desk.ask("left 100000000000"), [])
        self.assertEqual(desk.ask("right 999999999999"), [])
        self.assertEqual(desk.ask("row"), ["100000000000 999999999999"])
        self.refuses(desk, "part 0 999999999999", NoPlace)
        self.refuses(desk, "part 0 1000000000000", NoAsk)
        self.refuses(desk, "within 1000000000000", NoAsk)

    def test_where_24_are_kept(self):
        desk = desk_with((1,) * 23)
        self.assertEqual(desk.ask("left 2"), [])
        for line in ("left 0", "right 0", "left 999999999999", "left x", "right -1", "left", "right", "left 1 2",
                     "left 1000000000000"):
            self.refuses(desk, line, NoAsk)
        self.assertEqual(desk.ask("off left"), [])
        self.assertEqual(desk.ask("right 3"), [])
        self.assertEqual(desk.ask("row"), [in_row((1,) * 23 + (3,))])
        self.refuses(desk, "right 3", NoAsk)

    def test_none_to_take_off(self):
        desk = Desk()
        for again in range(2):
            self.refuses(desk, "off left", NoHeaps, 0)
            self.refuses(desk, "off right", NoHeaps, 0)
            desk.ask("right 5")
            desk.ask(("off left", "off right")[again])

    def test_stretches_that_there_are_not(self):
        for heaps in ((), (5,), (3, 4, 5)):
            desk = desk_with(heaps)
            many = len(heaps)
            for first in range(many + 2):
                for last in range(many + 2):
                    if not first <= last < many:
                        self.refuses(desk, f"part {first} {last}", NoPlace)

    def test_read(self):
        desk = desk_with((5, 1, 5))
        self.assertEqual(desk.ask("read "), [""])
        for text, place in (("1", 0), ("01", 1), ("101", 2), ("0 0", 1), (" ", 0), ("  ", 0), (" 0", 0), ("0 ", 1),
                            ("2", 0), ("012", 1), ("10x", 2), ("\n", 0), ("0\n", 1), ("row", 0), ("11 0", 2)):
            self.refuses(desk, "read " + text, NoWord, place)
        with at_once(20):
            self.assertEqual(desk.ask("read " + "10" * 190), [in_row((1,) * 190)])
            self.refuses(desk, "read " + "10" * 190 + "1", NoWord, 380)

    def test_read_of_no_heaps_and_of_one(self):
        with at_once(20):
            for heaps in ((), (5,)):
                desk = desk_with(heaps)
                self.assertEqual(desk.ask("read "), [""])
                for text in ("0", "1", " ", "00", "x", "\n", "row", "0 1"):
                    self.refuses(desk, "read " + text, NoWord, 0)

    def test_which_of_several_refusals(self):
        for heaps in ((), (3, 4, 5), (1,) * 24):
            desk = desk_with(heaps)
            # No number, and no stretch either.
            for line in ("part 30 x", "part x 30", "part 30 01", "part 030 1", "part 5 1 0", "part 9 1000000000000",
                         "part -1 0", "part 30"):
                self.refuses(desk, line, NoAsk)
        # None to take off, and no such line either.
        for line in ("off left left", "off", "off left ", "off  left", "off middle"):
            self.refuses(Desk(), line, NoAsk)
        # A text that cannot be read, and no such line either.
        self.refuses(Desk(), " read 2", NoAsk)


class Whole(unittest.TestCase):
    def test_lists_that_the_asker_changes(self):
        desk = desk_with((4, 1, 1, 4))
        before = all_told(desk)
        for line in ASKS + ("part 0 2", "within 3", "within 1", "read 0", "read "):
            told = desk.ask(line)
            kept = list(told)
            told.append("more")
            told[0] = "other"
            self.assertEqual(desk.ask(line), kept)
            told.clear()
            self.assertEqual(desk.ask(line), kept)
        nothing = desk.ask("left 9")
        nothing.append("more")
        self.assertEqual(desk.ask("off left"), [])
        self.assertEqual(all_told(desk), before)

    def test_told_lists_stay_as_they_were(self):
        desk = desk_with((4, 1, 1, 4))
        told = all_told(desk)
        awaited = all_told(desk_with((4, 1, 1, 4)))
        for line in ("left 5", "off right", "off right", "right 8"):
            desk.ask(line)
        self.assertEqual(told, awaited)

    def test_two_desks(self):
        one, other = Desk(), Desk()
        one.ask("left 1")
        self.assertEqual(all_told(other), all_told(Desk()))
        for line in ("left 5", "right 6", "left 7"):
            other.ask(line)
        self.assertEqual(all_told(one), all_told(desk_with((1,))))
        one.ask("off left")
        self.assertEqual(all_told(other), all_told(desk_with((7, 5, 6))))

    def test_comings_and_goings(self):
        with at_once(60):
            chance = random.Random(5)
            desk, row = Desk(), []
            for deed in range(500):
                end = chance.choice(("left", "right"))
                if len(row) < 24 and (not row or chance.random() < 0.6):
                    weight = chance.choice((0, 1, 2, 17, chance.randrange(10 ** 12)))
                    row.insert(0 if end == "left" else len(row), weight)
                    self.assertEqual(desk.ask(f"{end} {weight}"), [])
                else:
                    row.pop(0 if end == "left" else -1)
                    self.assertEqual(desk.ask(f"off {end}"), [])
                self.assertEqual(desk.ask("row"), [in_row(row)] if row else [])
                if deed % 20 == 0:
                    self.assertEqual(all_told(desk), all_told(desk_with(row)))

    def test_the_same_asked_again(self):
        desk = desk_with((4, 0, 1, 4, 9))
        self.assertEqual(all_told(desk), all_told(desk))


if __name__ == "__main__":
    unittest.main()
