"""The refusals: nocrossing.errors."""

import unittest

from nocrossing.errors import Crossing, NoNote, NoNumber, NoParting, RingError


class ErrorsTest(unittest.TestCase):
    def test_any_refusal_is_a_value_error(self):
        self.assertEqual(RingError.__bases__, (ValueError,))

    def test_each_refusal_stands_straight_under_ring_error(self):
        for refusal in (NoParting, Crossing, NoNumber, NoNote):
            with self.subTest(refusal.__name__):
                self.assertEqual(refusal.__bases__, (RingError,))

    def test_crossing_bears_its_points_when_made(self):
        self.assertEqual(Crossing((0, 1, 2, 3)).points, (0, 1, 2, 3))

    def test_a_raised_crossing_is_taken_as_any_refusal(self):
        with self.assertRaises(RingError) as taken:
            raise Crossing((1, 4, 5, 9))
        self.assertEqual(taken.exception.points, (1, 4, 5, 9))

    def test_the_others_are_raised_with_words(self):
        for refusal in (RingError, NoParting, NoNumber, NoNote):
            with self.subTest(refusal.__name__), self.assertRaises(refusal):
                raise refusal("words")


if __name__ == "__main__":
    unittest.main()
