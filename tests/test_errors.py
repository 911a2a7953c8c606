"""Where each refusal stands, and what it bears."""

import unittest

from threefree.errors import NoCopying, NoCount, NotFree, NoWeb, WebError


class Standing(unittest.TestCase):
    def test_web_error_is_straight_under_value_error(self):
        self.assertEqual(WebError.__bases__, (ValueError,))

    def test_each_refusal_is_straight_under_web_error(self):
        for refusal in (NoWeb, NotFree, NoCopying, NoCount):
            with self.subTest(refusal=refusal.__name__):
                self.assertEqual(refusal.__bases__, (WebError,))


class Bearing(unittest.TestCase):
    def test_not_free_bears_its_triangle_when_made(self):
        self.assertEqual(NotFree((0, 1, 2)).triangle, (0, 1, 2))
        self.assertIsInstance(NotFree((0, 1, 2)).triangle, tuple)

    def test_each_not_free_bears_its_own_triangle(self):
        first = NotFree((0, 1, 2))
        second = NotFree((3, 5, 8))
        self.assertEqual((first.triangle, second.triangle), ((0, 1, 2), (3, 5, 8)))

    def test_not_free_is_taken_as_a_web_error(self):
        with self.assertRaises(WebError) as taken:
            raise NotFree((1, 4, 6))
        self.assertEqual(taken.exception.triangle, (1, 4, 6))


if __name__ == "__main__":
    unittest.main()
