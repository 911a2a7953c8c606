"""The hues of a web with two sides, and the shortest odd rings of the others."""

import unittest
from itertools import product
from random import Random

from tests.samples import ALL_TIES, BOW, EMPTY, NO_TIES, PETERSEN_LESS_ONE, RING, TWO_SIDES, WEBS, WRONG_WEBS
from tests.samples import all_webs, between, pairs, plainly_free, plainly_near, renumbered, ring, shuffled
from tests.samples import some_free_webs, some_webs
from threefree.errors import NoWeb
from threefree.greatest import all_greatest
from threefree.sides import sides


def pieces(points, ties):
    """The pieces of a web, each a set of points."""
    found = [{point} for point in range(points)]
    for tie in ties:
        met = [piece for piece in found if piece & set(tie)]
        found = [piece for piece in found if piece not in met] + [set().union(*met)]
    return found


def plainly_the_hues(points, ties):
    """The one list of hues that is asked for, out of all there are; None if there is none."""
    leasts = {min(piece) for piece in pieces(points, ties)}
    choices = [(0,) if point in leasts else (0, 1) for point in range(points)]
    fitting = [list(hues) for hues in product(*choices) if all(hues[a] != hues[b] for a, b in ties)]
    return fitting[0] if fitting else None


def rings_from(path, ties, size):
    """True if the path, a list of unlike points, is the head of a ring of this size."""
    following = plainly_near(ties, path[-1])
    if len(path) == size:
        return path[0] in following
    return any(rings_from(path + [point], ties, size) for point in following if point not in path)


def plainly_shortest(points, ties):
    """The number of points of a shortest odd ring; None if there is none."""
    for size in range(3, points + 1, 2):
        if any(rings_from([start], ties, size) for start in range(points)):
            return size
    return None


class Told(unittest.TestCase):
    def check_ring(self, told, ties):
        self.assertIs(type(told), list)
        self.assertEqual([type(point) for point in told], [int] * len(told))
        self.assertEqual(len(set(told)), len(told))
        self.assertGreaterEqual(len(told), 3)
        self.assertEqual(len(told) % 2, 1)
        self.assertLessEqual(set(ring(told)), set(ties))

    def check_ring_of(self, points, ties, size):
        kind, told = sides(points, ties)
        self.assertEqual(kind, "ring")
        self.check_ring(told, ties)
        self.assertEqual(len(told), size)

    def check(self, points, ties):
        answer = sides(points, ties)
        self.assertIs(type(answer), tuple)
        self.assertEqual(len(answer), 2)
        kind, told = answer
        hues = plainly_the_hues(points, ties)
        if hues is None:
            self.assertEqual(kind, "ring", (points, ties))
            self.check_ring(told, ties)
            self.assertEqual(len(told), plainly_shortest(points, ties), (points, ties))
        else:
            self.assertEqual((kind, told), ("hues", hues), (points, ties))
            self.assertIs(type(told), list)
            self.assertEqual([type(one) for one in told], [int] * points)


class Hues(Told):
    def test_no_points(self):
        self.assertEqual(sides(*EMPTY), ("hues", []))

    def test_lone_points(self):
        for points in range(10):
            self.assertEqual(sides(points, []), ("hues", [0] * points))

    def test_one_tie_among_lone_points(self):
        for low, high in pairs(9):
            hues = [0] * 9
            hues[high] = 1
            self.assertEqual(sides(9, [(low, high)]), ("hues", hues))

    def test_some_webs(self):
        self.assertEqual(sides(*TWO_SIDES), ("hues", [0, 1, 0, 1, 0, 1, 0, 1, 0]))
        self.assertEqual(sides(4, [(0, 3), (1, 2), (2, 3)]), ("hues", [0, 1, 0, 1]))
        self.assertEqual(sides(4, ring([0, 1, 2, 3])), ("hues", [0, 1, 0, 1]))
        self.assertEqual(sides(4, between([0, 3], [1, 2])), ("hues", [0, 1, 1, 0]))

    def test_several_pieces(self):
        self.assertEqual(sides(6, [(0, 5), (1, 4), (2, 3)]), ("hues", [0, 0, 0, 1, 1, 1]))
        self.assertEqual(sides(9, [(1, 8), (2, 5), (2, 7), (3, 8), (4, 5)]), ("hues", [0, 0, 0, 0, 0, 1, 0, 1, 1]))
        self.assertEqual(sides(9, sorted(ring([1, 7, 4, 8]) + [(2, 6)])), ("hues", [0, 0, 0, 0, 0, 0, 1, 1, 1]))

    def test_the_least_point_of_a_piece_is_reached_late(self):
        self.assertEqual(sides(5, [(0, 4), (1, 2), (1, 3), (3, 4)]), ("hues", [0, 1, 0, 0, 1]))

    def test_even_rings_in_any_numbering(self):
        chance = Random(4)
        for points in (4, 6, 8):
            for turn in range(20):
                self.check(points, ring(shuffled(range(points), chance)))

    def test_ties_between_any_two_sides(self):
        chance = Random(9)
        for turn in range(100):
            order = shuffled(range(9), chance)
            every = between(order[:turn % 10], order[turn % 10:])
            self.check(9, every)
            self.check(9, sorted(chance.sample(every, len(every) // 2)))


class Rings(Told):
    def test_odd_rings_in_any_numbering(self):
        chance = Random(3)
        for size in (3, 5, 7, 9):
            self.check_ring_of(size, ring(list(range(size))), size)
            for turn in range(30):
                self.check_ring_of(size, ring(shuffled(range(size), chance)), size)

    def test_an_odd_ring_that_holds_any_points_of_nine(self):
        chance = Random(5)
        for size in (3, 5, 7):
            for turn in range(30):
                order = shuffled(range(9), chance)[:size]
                ties = ring(order)
                kind, told = sides(9, ties)
                self.assertEqual((kind, ring(told)), ("ring", ties))

    def test_the_ring_lies_in_a_later_piece(self):
        self.check_ring_of(9, [(0, 1), (2, 3), (6, 7), (6, 8), (7, 8)], 3)
        self.check_ring_of(9, sorted(ring([0, 1, 2, 3]) + ring([4, 5, 6, 7, 8])), 5)

    def test_the_shortest_of_several(self):
        self.check_ring_of(8, sorted(ring([0, 1, 2, 3, 4]) + ring([5, 6, 7])), 3)
        self.check_ring_of(9, sorted(ring([0, 1, 2, 3, 4, 5, 6, 7, 8]) + [(0, 2)]), 3)
        self.check_ring_of(9, sorted(ring([0, 1, 2, 3, 4, 5, 6, 7, 8]) + [(3, 7)]), 5)
        self.check_ring_of(9, sorted(ring([0, 1, 2, 3, 4, 5, 6, 7, 8]) + [(0, 3)]), 7)
        self.check_ring_of(9, sorted(ring([0, 1, 2, 3, 4, 5, 6]) + [(0, 7), (7, 8), (0, 8)]), 3)
        self.check_ring_of(7, sorted(ring([0, 1, 2, 3, 4]) + [(0, 5), (5, 6), (2, 6)]), 5)

    def test_each_tie_across_a_ring_of_nine(self):
        chance = Random(11)
        across = [tie for tie in pairs(9) if tie not in ring(list(range(9)))]
        for tie in across:
            ties = renumbered(ring(list(range(9))) + [tie], shuffled(range(9), chance))
            self.check(9, ties)

    def test_a_ring_hung_on_a_long_way(self):
        chance = Random(12)
        for turn in range(20):
            order = shuffled(range(9), chance)
            way = [(a, b) for a, b in zip(order[:5], order[1:5])]
            ties = renumbered(way + ring(order[4:]), list(range(9)))
            self.check_ring_of(9, ties, 5)

    def test_thick_webs(self):
        self.check_ring_of(*ALL_TIES, 3)
        self.check_ring_of(*BOW, 3)
        self.check_ring_of(*RING, 5)
        self.check_ring_of(*PETERSEN_LESS_ONE, 5)
        for put_away in ALL_TIES[1]:
            self.check_ring_of(9, [tie for tie in ALL_TIES[1] if tie != put_away], 3)

    def test_a_tie_within_a_side(self):
        for tie in pairs(9):
            if (tie[0] + tie[1]) % 2 == 0:
                self.check_ring_of(9, sorted(TWO_SIDES[1] + [tie]), 3)


class AllKinds(Told):
    def test_each_small_web(self):
        for points, ties in all_webs(5):
            self.check(points, ties)

    def test_webs_of_six_to_nine_points(self):
        for points in (6, 7, 8, 9):
            for web in some_webs(points, 150):
                self.check(*web)

    def test_free_webs_of_six_to_nine_points(self):
        for points in (6, 7, 8, 9):
            for web in some_free_webs(points, 60):
                self.check(*web)


class ManyNearPoints(Told):
    def keeps_the_premise(self, points, ties):
        return all(5 * len(plainly_near(ties, point)) > 2 * points for point in range(points))

    def check_premise(self, points, ties):
        if self.keeps_the_premise(points, ties) and plainly_free(points, ties):
            self.assertEqual(sides(points, ties), ("hues", plainly_the_hues(points, ties)), (points, ties))
            return 1
        return 0

    def test_each_small_free_web(self):
        self.assertEqual(sum(self.check_premise(*web) for web in all_webs(6)), 15)

    def test_greatest_webs(self):
        for points in (0, 2, 4, 6, 7, 8, 9):
            for ties in all_greatest(points):
                self.assertEqual(self.check_premise(points, ties), 1)

    def test_a_free_web_with_an_odd_ring_breaks_it(self):
        for points in (5, 6, 7, 8, 9):
            for web in some_free_webs(points, 100):
                if sides(*web)[0] == "ring":
                    self.assertFalse(self.keeps_the_premise(*web), web)

    def test_just_so_many_near_points_are_too_few(self):
        points, ties = RING
        self.assertEqual([5 * len(plainly_near(ties, point)) for point in range(5)], [2 * points] * 5)
        self.check_ring_of(points, ties, 5)


class HandedInAndTold(unittest.TestCase):
    def test_wrong_webs_are_refused(self):
        for fault, (points, ties) in WRONG_WEBS.items():
            with self.subTest(fault):
                self.assertRaises(NoWeb, sides, points, ties)

    def test_what_was_told_may_be_changed(self):
        for points, ties in WEBS:
            with self.subTest(points=points, ties=ties):
                kind, told = sides(points, ties)
                before = list(told)
                told.append(77)
                told.reverse()
                again = sides(points, ties)
                self.assertEqual(again, (kind, before))
                self.assertIsNot(again[1], told)

    def test_what_was_handed_in_may_be_changed_later(self):
        ties = [(0, 1), (1, 2)]
        told = sides(3, ties)
        ties.insert(1, (0, 2))
        self.assertEqual(told, ("hues", [0, 1, 0]))
        self.assertEqual(sides(3, ties)[0], "ring")
        self.assertEqual(sides(3, [(0, 1), (1, 2)]), told)
        self.assertEqual(sides(*NO_TIES), ("hues", [0] * 9))


if __name__ == "__main__":
    unittest.main()
