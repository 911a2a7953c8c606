"""What is promised over the whole program: the interface, the refusals, and what holds between the answers."""

import inspect
import unittest

from tests.samples import ALL_TIES, EMPTY, TWO_SIDES, WEBS, WRONG_WEBS, all_webs, some_free_webs, some_webs
from threefree.copies import copied, road
from threefree.errors import NotFree, NoWeb, WebError
from threefree.greatest import all_greatest, is_greatest, most
from threefree.sides import sides
from threefree.triangles import is_free, triangles
from threefree.webs import is_web, near

ARGUMENTS = {
    is_web: ["points", "ties"],
    near: ["points", "ties", "point"],
    triangles: ["points", "ties"],
    is_free: ["points", "ties"],
    sides: ["points", "ties"],
    most: ["points"],
    is_greatest: ["points", "ties"],
    all_greatest: ["points"],
    copied: ["points", "ties", "copying"],
    road: ["points", "ties"],
}

ASKED_OF_A_WEB = {
    near: [(0,), (8,), (-1,), (100,)],
    triangles: [()],
    is_free: [()],
    sides: [()],
    is_greatest: [()],
    copied: [((0, 1),), ((1, 0),), ((2, 2),), ((0, 100),)],
    road: [()],
}


def questions():
    for ask, others in ASKED_OF_A_WEB.items():
        for other in others:
            yield ask, other


def answer(ask, points, ties, other):
    try:
        return ask(points, ties, *other)
    except WebError as refusal:
        return refusal.__class__


class Interface(unittest.TestCase):
    def test_arguments(self):
        for ask, names in ARGUMENTS.items():
            with self.subTest(ask.__name__):
                self.assertEqual(list(inspect.signature(ask).parameters), names)

    def test_arguments_by_name(self):
        self.assertEqual(sides(points=2, ties=[(0, 1)]), ("hues", [0, 1]))
        self.assertEqual(copied(points=2, ties=[], copying=(0, 1)), [])
        self.assertEqual(road(points=0, ties=[]), [])
        self.assertEqual(all_greatest(points=2), [[(0, 1)]])


class Refusals(unittest.TestCase):
    def test_no_web(self):
        for fault, (points, ties) in WRONG_WEBS.items():
            for ask, other in questions():
                with self.subTest(fault, ask=ask.__name__, other=other):
                    self.assertRaises(NoWeb, ask, points, list(ties), *other)

    def test_the_most_ties_that_are_handed_in(self):
        ties = (ALL_TIES[1] * 3)[:100]
        for ask, other in questions():
            self.assertRaises(NoWeb, ask, 9, ties, *other)

    def test_only_a_road_needs_a_free_web(self):
        for ask, other in questions():
            if ask != road:
                self.assertIsNot(answer(ask, *ALL_TIES, other), NotFree)
        self.assertIs(answer(road, *ALL_TIES, ()), NotFree)


class HandedIn(unittest.TestCase):
    def test_it_is_as_it_was(self):
        for points, ties in WEBS + list(WRONG_WEBS.values()):
            for ask, other in questions():
                with self.subTest(points=points, ties=ties, ask=ask.__name__, other=other):
                    handed = list(ties)
                    members = [id(tie) for tie in handed]
                    answer(ask, points, handed, other)
                    self.assertEqual(handed, ties)
                    self.assertEqual([id(tie) for tie in handed], members)

    def test_it_is_not_kept(self):
        for points, ties in WEBS:
            for ask, other in questions():
                with self.subTest(points=points, ties=ties, ask=ask.__name__, other=other):
                    handed = list(ties)
                    before = answer(ask, points, handed, other)
                    told = answer(ask, points, ties, other)
                    handed.clear()
                    self.assertEqual(before, told)
                    self.assertEqual(answer(ask, points, ties, other), told)


class Told(unittest.TestCase):
    def test_the_same_question_has_the_same_answer(self):
        for points, ties in WEBS:
            for ask, other in questions():
                self.assertEqual(answer(ask, points, ties, other), answer(ask, points, list(ties), other))

    def test_no_answer_hangs_on_an_earlier_one(self):
        first = {(ask, other): answer(ask, *TWO_SIDES, other) for ask, other in questions()}
        for points, ties in WEBS:
            for ask, other in questions():
                answer(ask, points, ties, other)
        for ask, other in questions():
            self.assertEqual(answer(ask, *TWO_SIDES, other), first[(ask, other)])

    def test_no_list_told_is_one_handed_in_or_told_before(self):
        for points, ties in WEBS:
            lists = [ties]
            for turn in range(2):
                lists += [near(points, ties, point) for point in range(-1, points + 1)]
                lists += [triangles(points, ties), sides(points, ties)[1]]
                if is_free(points, ties):
                    lists.append(road(points, ties))
            self.assertEqual(len({id(told) for told in lists}), len(lists))


class PointsTiesAndTriangles(unittest.TestCase):
    def check_triangles(self, points, ties):
        many = len(ties)
        least = many * (4 * many - points * points)
        self.assertGreaterEqual(3 * points * len(triangles(points, ties)), least, (points, ties))

    def check_ends(self, points, ties):
        for low, high in ties:
            together = len(near(points, ties, low)) + len(near(points, ties, high))
            self.assertLessEqual(together, points, (points, ties, low, high))

    def test_triangles_of_each_small_web(self):
        for points, ties in all_webs(5):
            self.check_triangles(points, ties)

    def test_triangles_of_webs_of_six_to_nine_points(self):
        for points in (6, 7, 8, 9):
            for web in some_webs(points, 200):
                self.check_triangles(*web)

    def test_just_so_many_triangles(self):
        every_third = [(a, b) for a, b in ALL_TIES[1] if (b - a) % 3]
        for points, ties in (EMPTY, ALL_TIES, (9, every_third), (8, [tie for tie in TWO_SIDES[1] if tie[1] < 8])):
            many = len(ties)
            self.assertEqual(3 * points * len(triangles(points, ties)), many * (4 * many - points * points))

    def test_near_points_of_the_ends_of_a_tie_in_a_free_web(self):
        for points, ties in all_webs(5):
            if is_free(points, ties):
                self.check_ends(points, ties)
        for points in (6, 7, 8, 9):
            for web in some_free_webs(points, 60):
                self.check_ends(*web)

    def test_just_so_many_near_points(self):
        for points in range(2, 10):
            for ties in all_greatest(points)[:10]:
                for low, high in ties:
                    self.assertEqual(len(near(points, ties, low)) + len(near(points, ties, high)), points)


if __name__ == "__main__":
    unittest.main()
