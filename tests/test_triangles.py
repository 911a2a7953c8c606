"""The triangles of a web, and free webs."""

import unittest
from itertools import combinations

from tests.samples import ALL_TIES, BOW, EMPTY, NO_TIES, RING, TWO_SIDES, WEBS, WRONG_WEBS
from tests.samples import all_webs, plainly_triangles
from threefree.errors import NoWeb
from threefree.triangles import is_free, triangles


class Triangles(unittest.TestCase):
    def test_some_webs(self):
        self.assertEqual(triangles(3, [(0, 1), (0, 2), (1, 2)]), [(0, 1, 2)])
        self.assertEqual(triangles(*BOW), [(0, 1, 2), (2, 3, 4)])
        self.assertEqual(triangles(9, [(0, 8), (4, 6), (4, 8), (6, 7), (6, 8), (7, 8)]), [(4, 6, 8), (6, 7, 8)])

    def test_free_webs_have_none(self):
        for points, ties in (EMPTY, NO_TIES, RING, TWO_SIDES, (2, [(0, 1)]), (3, [(0, 1), (1, 2)])):
            with self.subTest(points=points, ties=ties):
                self.assertEqual(triangles(points, ties), [])

    def test_all_ties(self):
        told = triangles(*ALL_TIES)
        self.assertEqual(told, list(combinations(range(9), 3)))
        self.assertEqual(len(told), 84)

    def test_all_ties_but_one(self):
        points, ties = ALL_TIES
        for put_away in ties:
            left = [tie for tie in ties if tie != put_away]
            self.assertEqual(triangles(points, left), plainly_triangles(points, left), put_away)

    def test_each_small_web(self):
        for points, ties in all_webs(5):
            self.assertEqual(triangles(points, ties), plainly_triangles(points, ties), (points, ties))

    def test_kinds(self):
        told = triangles(*BOW)
        self.assertIs(type(told), list)
        self.assertEqual([type(triangle) for triangle in told], [tuple, tuple])

    def test_wrong_webs_are_refused(self):
        for fault, (points, ties) in WRONG_WEBS.items():
            with self.subTest(fault):
                self.assertRaises(NoWeb, triangles, points, ties)


class IsFree(unittest.TestCase):
    def test_each_small_web(self):
        for points, ties in all_webs(5):
            self.assertIs(is_free(points, ties), not plainly_triangles(points, ties), (points, ties))

    def test_nine_points(self):
        self.assertIs(is_free(*NO_TIES), True)
        self.assertIs(is_free(*TWO_SIDES), True)
        self.assertIs(is_free(*ALL_TIES), False)
        self.assertIs(is_free(9, [(6, 7), (6, 8), (7, 8)]), False)

    def test_one_tie_more_than_a_free_web_can_have(self):
        points, ties = TWO_SIDES
        self.assertIs(is_free(points, sorted(ties + [(6, 8)])), False)

    def test_wrong_webs_are_refused(self):
        for fault, (points, ties) in WRONG_WEBS.items():
            with self.subTest(fault):
                self.assertRaises(NoWeb, is_free, points, ties)


class HandedInAndTold(unittest.TestCase):
    def test_what_was_handed_in_is_as_it_was(self):
        for points, ties in WEBS + list(WRONG_WEBS.values()):
            for ask in (triangles, is_free):
                with self.subTest(points=points, ties=ties, ask=ask.__name__):
                    handed = list(ties)
                    try:
                        ask(points, handed)
                    except NoWeb:
                        pass
                    self.assertEqual(handed, ties)

    def test_what_was_told_may_be_changed(self):
        for points, ties in WEBS:
            with self.subTest(points=points, ties=ties):
                told = triangles(points, ties)
                before = list(told)
                told.append((7, 7, 7))
                again = triangles(points, ties)
                self.assertEqual(again, before)
                self.assertIsNot(again, told)
                self.assertIs(is_free(points, ties), before == [])

    def test_what_was_handed_in_may_be_changed_later(self):
        ties = [(0, 1), (0, 2)]
        told = triangles(3, ties)
        self.assertTrue(is_free(3, ties))
        ties.append((1, 2))
        self.assertEqual(told, [])
        self.assertEqual(triangles(3, ties), [(0, 1, 2)])
        self.assertFalse(is_free(3, ties))
        self.assertEqual(triangles(3, [(0, 1), (0, 2)]), [])


if __name__ == "__main__":
    unittest.main()
