import unittest

from joinedheaps.errors import JoinError, NoAsk, NoHeaps, NoPlace, NoTree, NoWord

OF_TEXTS = (NoTree, NoPlace, NoAsk)
OF_PLACES = (NoHeaps, NoWord)


class Errors(unittest.TestCase):
    def test_a_join_error_is_a_value_error(self):
        self.assertTrue(issubclass(JoinError, ValueError))
        self.assertEqual(JoinError.__bases__, (ValueError,))
        self.assertEqual(str(JoinError("any refusal")), "any refusal")

    def test_the_other_five_stand_under_join_error_alone(self):
        five = OF_TEXTS + OF_PLACES
        for one in five:
            self.assertTrue(issubclass(one, JoinError), one)
            for other in five:
                self.assertEqual(issubclass(one, other), one is other, (one, other))

    def test_made_of_a_text_which_str_tells(self):
        for kind in OF_TEXTS:
            for text in ("no such thing", "a", "", "two\nrows", "7"):
                self.assertEqual(str(kind(text)), text)

    def test_made_of_a_place_which_is_kept(self):
        for kind in OF_PLACES:
            for place in (0, 1, 23, 399, 10 ** 30):
                made = kind(place)
                self.assertEqual(made.place, place)
                self.assertIs(type(made.place), int)
                self.assertEqual(vars(made), {"place": place})
                self.assertIs(type(str(made)), str)

    def test_each_keeps_its_own_place(self):
        for kind in OF_PLACES:
            first, second = kind(1), kind(2)
            self.assertEqual((first.place, second.place), (1, 2))

    def test_raised_and_caught_as_a_refusal(self):
        for kind in OF_TEXTS:
            with self.assertRaises(JoinError) as caught:
                raise kind("why")
            self.assertIs(type(caught.exception), kind)
        for kind in OF_PLACES:
            with self.assertRaises(JoinError) as caught:
                raise kind(5)
            self.assertIs(type(caught.exception), kind)
            self.assertEqual(caught.exception.place, 5)


if __name__ == "__main__":
    unittest.main()
