import itertools
import random
import unittest

from joinedheaps.errors import NoHeaps, NoPlace
from joinedheaps.kept import KeptHeaps
from tests.helper import GREATEST, at_once, every_heaps, least_down, slow_least, slow_within, within_down

FAR = 10 ** 30


def kept_from_left(heaps):
    kept = KeptHeaps()
    for weight in reversed(heaps):
        kept.put_left(weight)
    return kept


def kept_from_right(heaps):
    kept = KeptHeaps()
    for weight in heaps:
        kept.put_right(weight)
    return kept


def kept_from_the_midst(heaps):
    kept = KeptHeaps()
    middle = len(heaps) // 2
    for left, right in itertools.zip_longest(reversed(heaps[:middle]), heaps[middle:]):
        kept.put_right(right)
        if left is not None:
            kept.put_left(left)
    return kept


def stretches_of(many):
    return [(first, last) for first in range(many) for last in range(first, many)]


def no_stretches(many):
    return [(first, last) for first in range(-many - 2, many + 3) for last in range(-many - 2, many + 3)
            if not 0 <= first <= last < many] + [(0, FAR), (-FAR, 0), (FAR, FAR), (-FAR, FAR), (-1, -1)]


def all_told(kept):
    """All that kept heaps tell, but for refusals."""
    heaps = kept.heaps_now()
    return (heaps, kept.cost_now(),
            [kept.part_now(first, last) for first, last in stretches_of(len(heaps))],
            [kept.within_now(bound) for bound in list(range(len(heaps) + 2)) + [FAR]])


class Refusals(unittest.TestCase):
    def refuses_heaps(self, deed, *arguments):
        with self.assertRaises(NoHeaps) as caught:
            deed(*arguments)
        self.assertEqual(caught.exception.place, 0)
        self.assertIs(type(caught.exception.place), int)

    def test_none_to_take_off(self):
        kept = KeptHeaps()
        for again in range(3):
            self.refuses_heaps(kept.take_left)
            self.refuses_heaps(kept.take_right)
            self.assertEqual(kept.heaps_now(), ())
            kept.put_left(5)
            (kept.take_left, kept.take_right, kept.take_left)[again]()
        self.refuses_heaps(kept.take_left)

    def test_a_weight_below_0(self):
        for heaps in ((), (0,), (3, 4), (1,) * 23, (1,) * 24):
            kept = kept_from_left(heaps)
            before = all_told(kept)
            for weight in (-1, -2, -GREATEST, -FAR):
                self.refuses_heaps(kept.put_left, weight)
                self.refuses_heaps(kept.put_right, weight)
                self.assertEqual(kept.heaps_now(), heaps)
            self.assertEqual(all_told(kept), before)

    def test_a_refusal_ahead_of_any_ask(self):
        kept = kept_from_left((3, 4))
        self.refuses_heaps(kept.put_left, -1)
        self.assertEqual(all_told(kept), all_told(kept_from_left((3, 4))))

    def test_stretches_that_there_are_not(self):
        for heaps in ((), (5,), (3, 4), (3, 0, 12), tuple(range(24))):
            kept = kept_from_right(heaps)
            for first, last in no_stretches(len(heaps)):
                with self.assertRaises(NoPlace, msg=(heaps, first, last)):
                    kept.part_now(first, last)
            self.assertEqual(all_told(kept), all_told(kept_from_right(heaps)))


class Kept(unittest.TestCase):
    def test_no_heaps(self):
        kept = KeptHeaps()
        self.assertEqual(kept.heaps_now(), ())
        self.assertEqual(kept.cost_now(), 0)
        for bound in (0, 1, 24, FAR):
            self.assertEqual(kept.within_now(bound), 0)

    def test_one_heap(self):
        for weight in (0, 7, GREATEST):
            kept = KeptHeaps()
            kept.put_left(weight)
            self.assertEqual(kept.heaps_now(), (weight,))
            self.assertEqual(kept.cost_now(), 0)
            self.assertEqual(kept.part_now(0, 0), 0)
            for bound in (0, 1, 24, FAR):
                self.assertEqual(kept.within_now(bound), 0)

    def test_by_hand(self):
        kept = KeptHeaps()
        self.assertIsNone(kept.put_left(3))
        self.assertIsNone(kept.put_right(12))
        self.assertEqual(kept.cost_now(), 15)
        self.assertIsNone(kept.put_left(0))
        self.assertEqual(kept.heaps_now(), (0, 3, 12))
        self.assertEqual(kept.cost_now(), 18)
        self.assertEqual([kept.part_now(0, 1), kept.part_now(1, 2), kept.part_now(0, 2)], [3, 15, 18])
        self.assertEqual([kept.within_now(bound) for bound in range(4)], [None, None, 18, 18])
        self.assertIsNone(kept.take_right())
        self.assertEqual(kept.heaps_now(), (0, 3))
        self.assertEqual(kept.cost_now(), 3)
        self.assertIsNone(kept.take_left())
        self.assertEqual(kept.heaps_now(), (3,))
        self.assertEqual(kept.cost_now(), 0)
        for weight in (1, 2, 4):
            kept.put_left(weight)
        self.assertEqual(kept.heaps_now(), (4, 2, 1, 3))
        self.assertEqual([kept.within_now(bound) for bound in range(5)], [None, None, 20, 19, 19])
        self.assertEqual(kept.cost_now(), 19)

    def test_up_to_seven_heaps(self):
        for many in range(1, 8):
            for heaps in every_heaps(many)[::2]:
                for made in (kept_from_left, kept_from_right, kept_from_the_midst):
                    kept = made(heaps)
                    self.assertEqual(kept.heaps_now(), heaps)
                    self.assertEqual(kept.cost_now(), slow_least(heaps))
                    for first, last in stretches_of(many):
                        self.assertEqual(kept.part_now(first, last), slow_least(heaps[first:last + 1]))
                    for bound in range(many + 2):
                        within = slow_within(heaps, bound)
                        self.assertEqual(kept.within_now(bound), within and within[0])

    def test_up_to_24_heaps(self):
        for many in (9, 16, 17, 23, 24):
            for heaps in every_heaps(many)[::9]:
                kept = kept_from_the_midst(heaps)
                self.assertEqual(kept.heaps_now(), heaps)
                self.assertEqual(kept.cost_now(), least_down(heaps))
                for first, last in stretches_of(many):
                    self.assertEqual(kept.part_now(first, last), least_down(heaps[first:last + 1]))
                for bound in (0, 3, 4, 5, 6, 9, many - 1, many):
                    within = within_down(heaps, bound)
                    self.assertEqual(kept.within_now(bound), within and within[0])
                self.assertEqual(kept.within_now(FAR), least_down(heaps))

    def test_kinds(self):
        for heaps in ((), (5,), (3, 4, 5), (1,) * 24):
            kept = kept_from_left(heaps)
            self.assertIs(type(kept.heaps_now()), tuple)
            self.assertIs(type(kept.cost_now()), int)
            self.assertIs(type(kept.within_now(24)), int)
            for first, last in stretches_of(len(heaps)):
                self.assertIs(type(kept.part_now(first, last)), int)

    def test_somewhat_beyond_the_limits(self):
        kept = kept_from_left((1,) * 30)
        self.assertEqual(kept.cost_now(), least_down((1,) * 30))
        self.assertIsNone(kept.within_now(-1))
        kept.put_right(FAR)
        self.assertEqual(kept.heaps_now(), (1,) * 30 + (FAR,))
        self.assertEqual(kept.part_now(29, 30), FAR + 1)
        self.assertEqual(KeptHeaps().within_now(-1), 0)


class ComingsAndGoings(unittest.TestCase):
    def deed(self, chance, kept, row):
        """Does a deed by chance to the kept heaps and to the row beside them."""
        if len(row) < 24 and (not row or chance.random() < 0.6):
            weight = chance.choice((0, 1, 2, 3, chance.randrange(100), chance.randrange(10 ** 12), GREATEST))
            if chance.random() < 0.5:
                kept.put_left(weight)
                row.insert(0, weight)
            else:
                kept.put_right(weight)
                row.append(weight)
        elif chance.random() < 0.5:
            kept.take_left()
            row.pop(0)
        else:
            kept.take_right()
            row.pop()

    def test_the_same_as_ones_made_afresh(self):
        with at_once(60):
            for start in range(4):
                chance = random.Random(start)
                kept, row = KeptHeaps(), []
                for deed in range(500):
                    self.deed(chance, kept, row)
                    self.assertEqual(kept.heaps_now(), tuple(row))
                    if deed % 9 == start:
                        self.assertEqual(all_told(kept), all_told(kept_from_right(tuple(row))))

    def test_against_another_way_behind_each_deed(self):
        chance = random.Random(77)
        kept, row = KeptHeaps(), []
        for deed in range(300):
            self.deed(chance, kept, row)
            heaps = tuple(row)
            self.assertEqual(kept.cost_now(), least_down(heaps) if heaps else 0)
            if heaps:
                first = chance.randrange(len(heaps))
                last = chance.randrange(first, len(heaps))
                self.assertEqual(kept.part_now(first, last), least_down(heaps[first:last + 1]))
            if 0 < len(heaps) < 10:
                bound = chance.randrange(8)
                within = within_down(heaps, bound)
                self.assertEqual(kept.within_now(bound), within and within[0])

    def test_as_many_heaps_but_others(self):
        kept = kept_from_left((1, 2, 3, 4))
        self.assertEqual(all_told(kept), all_told(kept_from_right((1, 2, 3, 4))))
        for deeds, heaps in (((kept.take_left, kept.put_right), (2, 3, 4, 50)),
                             ((kept.take_right, kept.put_left), (50, 2, 3, 4)),
                             ((kept.take_left, kept.put_left), (50, 2, 3, 4)),
                             ((kept.take_right, kept.put_right), (50, 2, 3, 50))):
            take, put = deeds
            take()
            put(50)
            self.assertEqual(kept.heaps_now(), heaps)
            self.assertEqual(kept.cost_now(), slow_least(heaps))
            self.assertEqual(all_told(kept), all_told(kept_from_right(heaps)))

    def test_all_taken_off_and_put_again(self):
        kept = kept_from_left((7,) * 24)
        all_told(kept)
        for heap in range(24):
            (kept.take_left if heap % 3 else kept.take_right)()
        self.assertEqual(all_told(kept), all_told(KeptHeaps()))
        kept.put_right(2)
        kept.put_left(1)
        self.assertEqual(all_told(kept), all_told(kept_from_left((1, 2))))

    def test_told_tuples_stay_as_they_were(self):
        kept = kept_from_left((1, 2, 3))
        told = kept.heaps_now()
        kept.put_left(9)
        kept.take_right()
        self.assertEqual(told, (1, 2, 3))

    def test_the_same_asked_again(self):
        kept = kept_from_left((4, 1, 1, 4, 0, 9))
        told = all_told(kept)
        for again in range(3):
            self.assertEqual(all_told(kept), told)

    def test_two_do_not_change_one_another(self):
        one, other = KeptHeaps(), KeptHeaps()
        one.put_left(1)
        self.assertEqual(all_told(other), all_told(KeptHeaps()))
        other.put_left(5)
        other.put_left(6)
        self.assertEqual(one.heaps_now(), (1,))
        self.assertEqual(one.cost_now(), 0)
        one.put_right(2)
        self.assertEqual(all_told(one), all_told(kept_from_left((1, 2))))
        self.assertEqual(all_told(other), all_told(kept_from_left((6, 5))))
        other.take_left()
        self.assertEqual(all_told(one), all_told(kept_from_left((1, 2))))

    def test_asked_as_often_as_one_likes(self):
        kept = kept_from_left(tuple(2 ** place for place in range(24)))
        with at_once(10):
            for again in range(200):
                kept.cost_now()
                for bound in range(25):
                    kept.within_now(bound)
                for first, last in stretches_of(24):
                    kept.part_now(first, last)


if __name__ == "__main__":
    unittest.main()
