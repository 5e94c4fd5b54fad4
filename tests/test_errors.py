import unittest

from asking import REFUSALS
from figuretell import errors


class ErrorsTest(unittest.TestCase):
    def test_any_refusal_is_a_value_error(self):
        self.assertEqual((ValueError,), errors.FigureError.__bases__)

    def test_each_stands_right_under_figure_error(self):
        for refusal in REFUSALS:
            self.assertEqual((errors.FigureError,), refusal.__bases__, refusal)

    def test_none_stands_under_another(self):
        for one in REFUSALS:
            for other in REFUSALS:
                self.assertEqual(one is other, issubclass(one, other), (one, other))

    def test_too_great_has_the_most(self):
        for most in (1, 7, 200, 1000000):
            self.assertEqual(most, errors.TooGreat(most).most)

    def test_most_is_of_each_error_by_itself(self):
        one = errors.TooGreat(3)
        other = errors.TooGreat(4)
        self.assertEqual((3, 4), (one.most, other.most))
        self.assertFalse(hasattr(errors.TooGreat, "most"))

    def test_too_great_is_caught_with_the_most(self):
        with self.assertRaises(errors.FigureError) as caught:
            raise errors.TooGreat(9)
        self.assertEqual(9, caught.exception.most)

    def test_too_great_asks_for_the_most(self):
        with self.assertRaises(TypeError):
            errors.TooGreat()

    def test_the_others_can_be_made_with_words_and_without(self):
        for refusal in REFUSALS:
            if refusal is not errors.TooGreat:
                self.assertIsInstance(refusal(), refusal)
                self.assertEqual("why", str(refusal("why")))


if __name__ == "__main__":
    unittest.main()
