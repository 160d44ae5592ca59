import unittest

from turnhall.errors import HallError, NoDeed, NotGoing


class TestErrors(unittest.TestCase):
    def test_any_refusal_is_a_value_error(self):
        self.assertEqual(HallError.__bases__, (ValueError,))

    def test_each_refusal_is_below_hall_error(self):
        for refusal in (NoDeed, NotGoing):
            self.assertTrue(issubclass(refusal, HallError))
            self.assertIsNot(refusal, HallError)

    def test_none_is_below_another(self):
        self.assertFalse(issubclass(NoDeed, NotGoing))
        self.assertFalse(issubclass(NotGoing, NoDeed))

    def test_taken_by_its_own_name_and_those_above(self):
        for refusal in (NoDeed, NotGoing):
            for name in (refusal, HallError, ValueError):
                with self.assertRaises(name) as taken:
                    raise refusal("words")
                self.assertIs(taken.exception.__class__, refusal)

    def test_hall_error_is_raised_and_taken(self):
        for name in (HallError, ValueError):
            with self.assertRaises(name):
                raise HallError("words")

    def test_not_taken_by_the_name_of_the_other(self):
        for refusal, other in ((NoDeed, NotGoing), (NotGoing, NoDeed)):
            try:
                raise refusal("words")
            except other:
                self.fail("taken by the wrong name")
            except HallError:
                pass

    def test_made_with_words_or_without(self):
        for refusal in (HallError, NoDeed, NotGoing):
            self.assertEqual(str(refusal("no deed 7")), "no deed 7")
            self.assertEqual(refusal().args, ())


if __name__ == "__main__":
    unittest.main()
