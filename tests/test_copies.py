"""Copyings, and the roads that they make."""

import unittest
from itertools import combinations, product

from tests.samples import ALL_TIES, BOW, EMPTY, NO_TIES, PETERSEN_LESS_ONE, RING, TWO_SIDES, WEBS, WRONG_WEBS
from tests.samples import all_webs, between, pairs, plainly_free, plainly_near, plainly_triangles, ring
from tests.samples import some_free_webs, some_webs
from threefree.copies import copied, road
from threefree.errors import NoCopying, NotFree, NoWeb

NO_POINTS_OF_ANY = (-100, -2, -1, 9, 10, 100)


def tied(ties, one, other):
    return (one, other) in ties or (other, one) in ties


def plainly_copied(ties, one, other):
    near_other = plainly_near(ties, other)
    left = {tie for tie in ties if one not in tie}
    return sorted(left | {(min(one, point), max(one, point)) for point in near_other})


class Copied(unittest.TestCase):
    def check_all_pairs(self, points, ties):
        free = plainly_free(points, ties)
        for one, other in product(range(points), repeat=2):
            if one == other or tied(ties, one, other):
                self.assertRaises(NoCopying, copied, points, ties, (one, other))
                continue
            told = copied(points, ties, (one, other))
            self.assertEqual(told, plainly_copied(ties, one, other), (points, ties, one, other))
            self.assertEqual(plainly_near(told, one), plainly_near(ties, other))
            self.assertEqual(plainly_near(told, other), plainly_near(ties, other))
            if free:
                self.assertTrue(plainly_free(points, told), (points, ties, one, other))

    def test_some_copyings(self):
        self.assertEqual(copied(*RING, (0, 2)), [(0, 1), (0, 3), (1, 2), (2, 3), (3, 4)])
        self.assertEqual(copied(*RING, (2, 0)), [(0, 1), (0, 4), (1, 2), (2, 4), (3, 4)])
        self.assertEqual(copied(*BOW, (5, 2)), sorted(BOW[1] + [(0, 5), (1, 5), (3, 5), (4, 5)]))
        self.assertEqual(copied(*BOW, (2, 5)), [(0, 1), (3, 4)])
        self.assertEqual(copied(3, [(0, 1)], (2, 0)), [(0, 1), (1, 2)])
        self.assertEqual(copied(3, [(0, 1)], (0, 2)), [])
        self.assertEqual(copied(2, [], (0, 1)), [])

    def test_a_web_that_is_not_free_may_be_copied_in(self):
        self.assertEqual(copied(4, [(0, 1), (0, 2), (1, 2)], (3, 0)), [(0, 1), (0, 2), (1, 2), (1, 3), (2, 3)])

    def test_all_pairs_of_each_small_web(self):
        for points, ties in all_webs(5):
            self.check_all_pairs(points, ties)

    def test_all_pairs_of_webs_of_nine_points(self):
        for points in (6, 7, 8, 9):
            for web in list(some_webs(points, 40)) + list(some_free_webs(points, 30)):
                self.check_all_pairs(*web)

    def test_all_pairs_of_webs_of_many_kinds(self):
        for web in WEBS:
            self.check_all_pairs(*web)

    def test_kinds(self):
        told = copied(*RING, (0, 2))
        self.assertIs(type(told), list)
        self.assertEqual([type(tie) for tie in told], [tuple] * 5)


class NoCopyings(unittest.TestCase):
    def test_one_point_twice(self):
        for points, ties in WEBS:
            for point in range(points):
                self.assertRaises(NoCopying, copied, points, ties, (point, point))

    def test_two_tied_points(self):
        for points, ties in WEBS:
            for low, high in ties:
                self.assertRaises(NoCopying, copied, points, ties, (low, high))
                self.assertRaises(NoCopying, copied, points, ties, (high, low))

    def test_numbers_that_are_no_points(self):
        for points, ties in WEBS:
            for number in NO_POINTS_OF_ANY + (points, points + 1):
                for point in range(points):
                    with self.subTest(points=points, ties=ties, number=number, point=point):
                        self.assertRaises(NoCopying, copied, points, ties, (number, point))
                        self.assertRaises(NoCopying, copied, points, ties, (point, number))
                for second in NO_POINTS_OF_ANY:
                    self.assertRaises(NoCopying, copied, points, ties, (number, second))

    def test_no_web_is_told_ahead_of_no_copying(self):
        for fault, (points, ties) in WRONG_WEBS.items():
            for copying in ((0, 1), (0, 2), (0, 0), (1, 0), (-1, 0), (0, points), (100, 100), (-100, 3)):
                with self.subTest(fault, copying=copying):
                    self.assertRaises(NoWeb, copied, points, ties, copying)


class Road(unittest.TestCase):
    def walk(self, points, ties):
        """The ties behind the road of a free web, each copying of it checked on the way."""
        told = road(points, ties)
        self.assertIs(type(told), list)
        self.assertLessEqual(len(told), points * points)
        for copying in told:
            self.assertIs(type(copying), tuple)
            one, other = copying
            self.assertEqual((type(one), type(other)), (int, int))
            self.assertTrue(0 <= one < points and 0 <= other < points and one != other, (points, told))
            self.assertFalse(tied(ties, one, other), (points, told))
            self.assertGreaterEqual(len(plainly_near(ties, other)), len(plainly_near(ties, one)), (points, told))
            behind = plainly_copied(ties, one, other)
            self.assertGreaterEqual(len(behind), len(ties))
            ties = behind
        return ties

    def check(self, points, ties):
        behind = self.walk(points, ties)
        for one, other in combinations(range(points), 2):
            if not tied(behind, one, other):
                self.assertEqual(plainly_near(behind, one), plainly_near(behind, other), (points, ties))
        self.assertTrue(plainly_free(points, behind))
        if ties:
            side = plainly_near(behind, behind[0][0])
            self.assertEqual(behind, between([point for point in range(points) if point not in side], side))

    def test_no_points(self):
        self.assertEqual(road(*EMPTY), [])
        self.assertEqual(road(1, []), [])

    def test_no_ties(self):
        for points in range(10):
            self.check(points, [])

    def test_one_tie_anywhere(self):
        for points in range(2, 10):
            for tie in pairs(points):
                self.check(points, [tie])

    def test_rings(self):
        for size in range(4, 10):
            self.check(size, ring(list(range(size))))
            self.check(9, ring(list(range(9 - size, 9))))
        self.check(9, sorted(ring([0, 2, 4, 6]) + ring([1, 3, 5, 7, 8])))

    def test_two_sides_with_all_ties(self):
        for size in range(10):
            self.check(9, between(range(size), range(size, 9)))
        self.check(*TWO_SIDES)

    def test_two_sides_without_all_ties(self):
        for size in range(1, 9):
            ties = between(range(size), range(size, 9))
            for gone in ties:
                self.check(9, [tie for tie in ties if tie != gone])
        self.check(8, [(0, 4), (1, 5), (2, 6), (3, 7)])
        self.check(9, [(0, 5), (1, 5), (1, 6), (2, 6), (2, 7), (3, 7), (3, 8), (4, 8)])

    def test_ways_stars_and_a_thick_web_without_two_sides(self):
        self.check(9, [(point, point + 1) for point in range(8)])
        self.check(9, [(0, point) for point in range(1, 9)])
        self.check(9, [(0, 1), (0, 2), (0, 3), (4, 5), (6, 7), (6, 8)])
        self.check(*PETERSEN_LESS_ONE)

    def test_each_small_free_web(self):
        for points, ties in all_webs(6):
            if plainly_free(points, ties):
                self.check(points, ties)

    def test_many_free_webs_of_seven_to_nine_points(self):
        for points, many in ((7, 100), (8, 100), (9, 600)):
            for web in some_free_webs(points, many):
                self.check(*web)

    def test_the_copyings_of_a_road_are_allowed_by_copied(self):
        for points, ties in some_free_webs(9, 100):
            behind = self.walk(points, ties)
            for copying in road(points, ties):
                ties = copied(points, ties, copying)
            self.assertEqual(ties, behind)


class NotFreeRoads(unittest.TestCase):
    def check_refused(self, points, ties):
        with self.assertRaises(NotFree) as taken:
            road(points, ties)
        triangle = taken.exception.triangle
        self.assertIs(type(triangle), tuple)
        self.assertIn(triangle, plainly_triangles(points, ties), (points, ties))

    def test_each_triangle_by_itself(self):
        for points in (3, 4, 9):
            for triangle in combinations(range(points), 3):
                self.check_refused(points, list(combinations(triangle, 2)))

    def test_webs_of_many_kinds(self):
        self.check_refused(*ALL_TIES)
        self.check_refused(*BOW)
        self.check_refused(9, sorted(TWO_SIDES[1] + [(6, 8)]))

    def test_each_small_web_that_is_not_free(self):
        for points, ties in all_webs(5):
            if not plainly_free(points, ties):
                self.check_refused(points, ties)

    def test_webs_of_nine_points(self):
        for points, ties in some_webs(9, 200):
            if not plainly_free(points, ties):
                self.check_refused(points, ties)

    def test_no_web_is_told_ahead_of_not_free(self):
        for fault, (points, ties) in WRONG_WEBS.items():
            with self.subTest(fault):
                self.assertRaises(NoWeb, road, points, ties)
        three = [(0, 1), (0, 2), (1, 2)]
        for points, ties in ((10, three), (2, three), (3, three + [(1, 2)]), (3, three[::-1]), (4, three + [(2, 4)])):
            self.assertRaises(NoWeb, road, points, ties)


class HandedInAndTold(unittest.TestCase):
    def test_what_was_told_may_be_changed(self):
        for points, ties in list(some_free_webs(9, 30)) + [EMPTY, NO_TIES, RING, TWO_SIDES]:
            told = road(points, ties)
            before = list(told)
            told.append((7, 7))
            told.reverse()
            again = road(points, ties)
            self.assertEqual(again, before)
            self.assertIsNot(again, told)

    def test_a_copying_that_changes_nothing_tells_a_list_of_its_own(self):
        for points, ties, copying in ((9, [], (0, 8)), (*TWO_SIDES, (0, 2)), (4, ring([0, 1, 2, 3]), (1, 3))):
            handed = list(ties)
            told = copied(points, handed, copying)
            self.assertEqual(told, handed)
            self.assertIsNot(told, handed)
            told.append((7, 7))
            self.assertEqual(handed, ties)
            self.assertEqual(copied(points, handed, copying), ties)

    def test_what_was_handed_in_may_be_changed_later(self):
        ties = [(0, 1)]
        told = copied(3, ties, (2, 0))
        way = road(3, ties)
        ties.append((0, 2))
        self.assertEqual(told, [(0, 1), (1, 2)])
        self.assertEqual(road(3, [(0, 1)]), way)
        self.assertEqual(copied(3, [(0, 1)], (2, 0)), told)
        self.assertRaises(NoCopying, copied, 3, ties, (2, 0))


if __name__ == "__main__":
    unittest.main()
