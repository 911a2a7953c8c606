"""What a web is, and the points near a point."""

import unittest
from itertools import product

from tests.samples import ALL_TIES, BOW, EMPTY, NO_TIES, RING, TWO_SIDES, WEBS, WRONG_WEBS
from tests.samples import all_webs, pairs, plainly_near
from threefree.errors import NoWeb
from threefree.webs import is_web, near

NO_POINTS_OF_ANY = (-100, -2, -1, 9, 10, 100)


def plainly_a_web(points, ties):
    return points in range(10) and ties == sorted(set(ties)) and set(ties) <= set(pairs(points))


class IsWeb(unittest.TestCase):
    def test_webs(self):
        for points, ties in WEBS:
            with self.subTest(points=points, ties=ties):
                self.assertIs(is_web(points, ties), True)

    def test_no_points_to_nine_points(self):
        for points in range(10):
            with self.subTest(points=points):
                self.assertIs(is_web(points, []), True)
                self.assertIs(is_web(points, pairs(points)), True)

    def test_wrong_webs(self):
        for fault, (points, ties) in WRONG_WEBS.items():
            with self.subTest(fault):
                self.assertIs(is_web(points, ties), False)

    def test_all_short_lists_of_ties(self):
        numbers = list(product(range(-1, 4), repeat=2))
        for points, size in product((-1, 0, 1, 2, 3, 4, 9, 10), range(3)):
            for ties in product(numbers, repeat=size):
                self.assertIs(is_web(points, list(ties)), plainly_a_web(points, list(ties)), (points, ties))

    def test_every_order_of_three_ties(self):
        for ties in product(pairs(3), repeat=3):
            self.assertIs(is_web(3, list(ties)), list(ties) == pairs(3), ties)


class Near(unittest.TestCase):
    def test_each_point_of_some_webs(self):
        self.assertEqual([near(*RING, point) for point in range(5)], [[1, 4], [0, 2], [1, 3], [2, 4], [0, 3]])
        self.assertEqual(
            [near(*BOW, point) for point in range(6)],
            [[1, 2], [0, 2], [0, 1, 3, 4], [2, 4], [2, 3], []],
        )

    def test_nine_points(self):
        for point in range(9):
            with self.subTest(point=point):
                self.assertEqual(near(*NO_TIES, point), [])
                self.assertEqual(near(*ALL_TIES, point), [other for other in range(9) if other != point])
                self.assertEqual(near(*TWO_SIDES, point), [other for other in range(9) if (other + point) % 2])

    def test_each_point_of_each_small_web(self):
        for points, ties in all_webs(5):
            for point in range(-2, points + 2):
                told = near(points, ties, point)
                self.assertIs(type(told), list)
                self.assertEqual(told, plainly_near(ties, point), (points, ties, point))

    def test_a_number_that_is_no_point(self):
        for points, ties in WEBS:
            for point in NO_POINTS_OF_ANY + (points, points + 1):
                with self.subTest(points=points, ties=ties, point=point):
                    self.assertEqual(near(points, ties, point), [])

    def test_no_points(self):
        self.assertEqual(near(*EMPTY, 0), [])

    def test_wrong_webs_are_refused(self):
        for fault, (points, ties) in WRONG_WEBS.items():
            for point in (0, 1, points) + NO_POINTS_OF_ANY:
                with self.subTest(fault, point=point):
                    self.assertRaises(NoWeb, near, points, ties, point)


class HandedInAndTold(unittest.TestCase):
    def test_what_was_handed_in_is_as_it_was(self):
        for points, ties in WEBS + list(WRONG_WEBS.values()):
            with self.subTest(points=points, ties=ties):
                handed = list(ties)
                is_web(points, handed)
                self.assertEqual(handed, ties)
                try:
                    near(points, handed, 0)
                except NoWeb:
                    pass
                self.assertEqual(handed, ties)

    def test_what_was_told_may_be_changed(self):
        for points, ties in WEBS:
            for point in range(-1, points + 1):
                with self.subTest(points=points, ties=ties, point=point):
                    told = near(points, ties, point)
                    before = list(told)
                    told.append(77)
                    again = near(points, ties, point)
                    self.assertEqual(again, before)
                    self.assertIsNot(again, told)

    def test_what_was_handed_in_may_be_changed_later(self):
        ties = [(0, 1), (0, 2)]
        told = near(3, ties, 0)
        self.assertTrue(is_web(3, ties))
        ties.append((1, 2))
        self.assertEqual(told, [1, 2])
        self.assertEqual(near(3, ties, 1), [0, 2])
        self.assertEqual(near(3, [(0, 1), (0, 2)], 1), [0])
        ties.append((1, 2))
        self.assertFalse(is_web(3, ties))
        self.assertRaises(NoWeb, near, 3, ties, 0)


if __name__ == "__main__":
    unittest.main()
