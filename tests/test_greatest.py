"""How many ties a free web has at most, and the greatest free webs."""

import unittest
from itertools import combinations, product

from tests.samples import ALL_TIES, EMPTY, NO_TIES, RING, TWO_SIDES, WEBS, WRONG_WEBS
from tests.samples import all_webs, between, pairs, plainly_free, some_free_webs, some_webs
from threefree.errors import NoCount, NoWeb
from threefree.greatest import all_greatest, is_greatest, most

BOUND = 10 ** 30


def with_all_ties_between_halves(points):
    """The greatest webs by their form, each as a set of ties, found from every choice of a side."""
    found = []
    for side in combinations(range(points), points // 2):
        ties = set(between(side, [point for point in range(points) if point not in side]))
        if ties not in found:
            found.append(ties)
    return found


class Most(unittest.TestCase):
    def test_few_points(self):
        self.assertEqual([most(points) for points in range(12)], [0, 0, 1, 2, 4, 6, 9, 12, 16, 20, 25, 30])

    def test_no_free_web_of_few_points_has_more_and_one_has_as_many(self):
        ties_of_free_webs = {points: 0 for points in range(7)}
        for points, ties in all_webs(6):
            if len(ties) > ties_of_free_webs[points] and plainly_free(points, ties):
                ties_of_free_webs[points] = len(ties)
        self.assertEqual([most(points) for points in range(7)], list(ties_of_free_webs.values()))

    def test_no_free_web_of_seven_to_nine_points_has_more(self):
        for points in (7, 8, 9):
            for web in some_free_webs(points, 100):
                self.assertLessEqual(len(web[1]), most(points))

    def test_many_points(self):
        self.assertEqual(most(100), 2500)
        self.assertEqual(most(101), 2550)
        self.assertEqual(most(10 ** 9 + 1), 250000000500000000)
        self.assertEqual(most(BOUND), 25 * 10 ** 58)
        self.assertEqual(most(BOUND - 1), (5 * 10 ** 29) * (5 * 10 ** 29 - 1))

    def test_every_number_is_exact(self):
        for exponent in range(31):
            for points in (10 ** exponent - 1, 10 ** exponent, 7 * 10 ** exponent // 9, 3 * 10 ** exponent // 7):
                told = most(points)
                self.assertIs(type(told), int)
                self.assertEqual(told, (points // 2) * (points - points // 2), points)

    def test_other_numbers_are_refused(self):
        for points in (-1, -2, -100, -10 ** 32, BOUND + 1, BOUND + 2, 2 * BOUND, 10 ** 31, 10 ** 32):
            with self.subTest(points=points):
                self.assertRaises(NoCount, most, points)


class IsGreatest(unittest.TestCase):
    def test_each_small_web_by_its_form(self):
        forms = {points: with_all_ties_between_halves(points) for points in range(7)}
        for points, ties in all_webs(6):
            self.assertIs(is_greatest(points, ties), set(ties) in forms[points], (points, ties))

    def test_each_small_web_by_its_number_of_ties(self):
        for points, ties in all_webs(5):
            greatest = plainly_free(points, ties) and len(ties) == points * points // 4
            self.assertIs(is_greatest(points, ties), greatest, (points, ties))

    def test_webs_of_many_kinds(self):
        greatest = [web for web in WEBS if is_greatest(*web)]
        self.assertEqual(greatest, [EMPTY, (1, []), (2, [(0, 1)]), TWO_SIDES])

    def test_few_points(self):
        self.assertIs(is_greatest(0, []), True)
        self.assertIs(is_greatest(1, []), True)
        self.assertIs(is_greatest(2, []), False)
        self.assertIs(is_greatest(2, [(0, 1)]), True)
        self.assertIs(is_greatest(3, [(0, 1), (1, 2)]), True)
        self.assertIs(is_greatest(3, [(0, 1), (0, 2), (1, 2)]), False)

    def test_many_ties_alone_are_not_enough(self):
        self.assertIs(is_greatest(4, [(0, 1), (0, 2), (0, 3), (1, 2)]), False)
        self.assertIs(is_greatest(9, ALL_TIES[1][:20]), False)
        self.assertIs(is_greatest(*ALL_TIES), False)

    def test_two_sides_alone_are_not_enough(self):
        self.assertIs(is_greatest(*NO_TIES), False)
        self.assertIs(is_greatest(*RING), False)
        for size in range(10):
            ties = between(range(size), range(size, 9))
            self.assertIs(is_greatest(9, ties), size in (4, 5), size)

    def test_one_tie_put_away_put_in_or_changed(self):
        for points, side in ((8, [0, 1, 2, 3]), (8, [0, 3, 5, 6]), (9, [1, 3, 5, 7]), (9, [0, 1, 2, 6])):
            ties = between(side, [point for point in range(points) if point not in side])
            others = [tie for tie in pairs(points) if tie not in ties]
            self.assertIs(is_greatest(points, ties), True)
            for gone in ties:
                self.assertIs(is_greatest(points, [tie for tie in ties if tie != gone]), False)
            for come in others:
                self.assertIs(is_greatest(points, sorted(ties + [come])), False)
            for gone, come in product(ties, others):
                left = [tie for tie in ties if tie != gone]
                self.assertIs(is_greatest(points, sorted(left + [come])), False)

    def test_webs_of_seven_to_nine_points(self):
        for points in (7, 8, 9):
            forms = with_all_ties_between_halves(points)
            for web in list(some_webs(points, 100)) + list(some_free_webs(points, 100)):
                self.assertIs(is_greatest(*web), set(web[1]) in forms, web)

    def test_wrong_webs_are_refused(self):
        for fault, (points, ties) in WRONG_WEBS.items():
            with self.subTest(fault):
                self.assertRaises(NoWeb, is_greatest, points, ties)


class AllGreatest(unittest.TestCase):
    def test_few_points(self):
        self.assertEqual(all_greatest(0), [[]])
        self.assertEqual(all_greatest(1), [[]])
        self.assertEqual(all_greatest(2), [[(0, 1)]])
        self.assertEqual(all_greatest(3), [[(0, 1), (0, 2)], [(0, 1), (1, 2)], [(0, 2), (1, 2)]])
        self.assertEqual(
            all_greatest(4),
            [
                [(0, 1), (0, 2), (1, 3), (2, 3)],
                [(0, 1), (0, 3), (1, 2), (2, 3)],
                [(0, 2), (0, 3), (1, 2), (1, 3)],
            ],
        )

    def test_how_many(self):
        self.assertEqual([len(all_greatest(points)) for points in range(10)], [1, 1, 1, 3, 3, 10, 10, 35, 35, 126])

    def test_each_once_and_in_the_order_of_lists(self):
        for points in range(10):
            told = all_greatest(points)
            for ahead, behind in zip(told, told[1:]):
                self.assertLess(ahead, behind)

    def test_all_of_few_points_and_none_else(self):
        every = {points: [] for points in range(7)}
        for points, ties in all_webs(6):
            if len(ties) == points * points // 4 and plainly_free(points, ties):
                every[points].append(ties)
        for points in range(7):
            self.assertEqual(all_greatest(points), sorted(every[points]))

    def test_all_by_their_form(self):
        for points in range(10):
            forms = [sorted(ties) for ties in with_all_ties_between_halves(points)]
            self.assertEqual(all_greatest(points), sorted(forms))

    def test_each_is_a_greatest_free_web(self):
        for points in range(10):
            for ties in all_greatest(points):
                self.assertTrue(plainly_free(points, ties))
                self.assertEqual(len(ties), most(points))
                self.assertIs(is_greatest(points, ties), True)

    def test_kinds(self):
        for points in range(10):
            told = all_greatest(points)
            self.assertIs(type(told), list)
            for ties in told:
                self.assertIs(type(ties), list)
                self.assertEqual({type(tie) for tie in ties}, {tuple} if ties else set())

    def test_other_numbers_are_refused(self):
        for points in (-100, -9, -2, -1, 10, 11, 12, 100):
            with self.subTest(points=points):
                self.assertRaises(NoCount, all_greatest, points)


class HandedInAndTold(unittest.TestCase):
    def test_no_two_lists_told_are_one(self):
        for points in range(10):
            first, second = all_greatest(points), all_greatest(points)
            lists = [first, second] + first + second
            self.assertEqual(len({id(told) for told in lists}), len(lists))

    def test_what_was_told_may_be_changed(self):
        for points in range(10):
            told = all_greatest(points)
            before = [list(ties) for ties in told]
            for ties in told:
                ties.append((7, 7))
            self.assertEqual([ties[:-1] for ties in told], before)
            told.reverse()
            told.append([])
            self.assertEqual(all_greatest(points), before)
            self.assertTrue(is_greatest(points, before[0]))

    def test_what_was_handed_in_may_be_changed_later(self):
        ties = list(TWO_SIDES[1])
        self.assertTrue(is_greatest(9, ties))
        ties.pop()
        self.assertFalse(is_greatest(9, ties))
        self.assertTrue(is_greatest(*TWO_SIDES))


if __name__ == "__main__":
    unittest.main()
