"""Webs and wrong webs that several tests ask about."""

from itertools import combinations


def pairs(points):
    return list(combinations(range(points), 2))


def all_webs(most_points):
    """Every web of up to so many points."""
    for points in range(most_points + 1):
        for size in range(len(pairs(points)) + 1):
            for ties in combinations(pairs(points), size):
                yield points, list(ties)


def between(left, right):
    return sorted((min(a, b), max(a, b)) for a in left for b in right)


EMPTY = (0, [])
NO_TIES = (9, [])
ALL_TIES = (9, pairs(9))
RING = (5, [(0, 1), (0, 4), (1, 2), (2, 3), (3, 4)])
TWO_SIDES = (9, between([0, 2, 4, 6, 8], [1, 3, 5, 7]))
BOW = (6, [(0, 1), (0, 2), (1, 2), (2, 3), (2, 4), (3, 4)])

WEBS = [EMPTY, (1, []), (2, [(0, 1)]), NO_TIES, ALL_TIES, RING, TWO_SIDES, BOW]

WRONG_WEBS = {
    "points just below nought": (-1, []),
    "points far below nought": (-100, []),
    "points below nought, with a tie": (-2, [(0, 1)]),
    "points just above nine": (10, []),
    "points just above nine, with ties": (10, [(0, 1), (0, 2), (1, 2)]),
    "points far above nine": (100, []),
    "a tie twice": (3, [(0, 1), (0, 1)]),
    "a tie twice, others ahead": (4, [(0, 1), (1, 2), (2, 3), (2, 3)]),
    "a tie twice, not side by side": (3, [(0, 1), (0, 2), (0, 1)]),
    "out of order by the first point": (3, [(1, 2), (0, 1)]),
    "out of order by the second point": (3, [(0, 2), (0, 1)]),
    "out of order at the end": (5, [(0, 1), (0, 2), (3, 4), (1, 2)]),
    "the greater point first": (3, [(1, 0)]),
    "the greater point first, others right": (3, [(0, 1), (0, 2), (2, 1)]),
    "a tie both ways": (2, [(0, 1), (1, 0)]),
    "from a point to itself": (3, [(1, 1)]),
    "from nought to itself": (1, [(0, 0)]),
    "the number of points in a tie": (3, [(0, 1), (1, 3)]),
    "a number just below nought": (3, [(-1, 2)]),
    "a number far beyond": (9, [(0, 1), (2, 100)]),
    "a number far below": (9, [(-100, 0), (0, 1)]),
    "no points, but a tie": (0, [(0, 1)]),
    "one point, but a tie": (1, [(0, 1)]),
    "a hundred ties": (9, [(0, 1)] * 100),
}
