"""Webs and wrong webs that several tests ask about."""

from itertools import combinations
from random import Random


def pairs(points):
    return list(combinations(range(points), 2))


def all_webs(most_points):
    """Every web of up to so many points."""
    for points in range(most_points + 1):
        for size in range(len(pairs(points)) + 1):
            for ties in combinations(pairs(points), size):
                yield points, list(ties)


def between(left, right):
    return sorted((min(a, b), max(a, b)) for a in left for b in right)


def ring(order):
    """The ties of a ring that goes through these points in this order."""
    return sorted((min(a, b), max(a, b)) for a, b in zip(order, order[1:] + order[:1]))


def renumbered(ties, numbers):
    return sorted((min(numbers[a], numbers[b]), max(numbers[a], numbers[b])) for a, b in ties)


def shuffled(values, chance):
    values = list(values)
    chance.shuffle(values)
    return values


def some_webs(points, many):
    """Webs of so many points, from thin to thick, the same ones at each call."""
    chance = Random(points)
    for turn in range(many):
        size = turn % (len(pairs(points)) + 1)
        yield points, sorted(chance.sample(pairs(points), size))


def some_free_webs(points, many):
    """Free webs of so many points, every third one with no room for a tie more, the same ones at each call."""
    chance = Random(100 + points)
    for turn in range(many):
        ties = []
        for tie in shuffled(pairs(points), chance):
            if not plainly_triangles(points, sorted(ties + [tie])):
                ties.append(tie)
        if turn % 3:
            ties = chance.sample(ties, chance.randrange(len(ties) + 1))
        yield points, sorted(ties)


def plainly_near(ties, point):
    return sorted([b for a, b in ties if a == point] + [a for a, b in ties if b == point])


def plainly_triangles(points, ties):
    return [three for three in combinations(range(points), 3) if set(combinations(three, 2)) <= set(ties)]


def plainly_free(points, ties):
    return plainly_triangles(points, ties) == []


EMPTY = (0, [])
NO_TIES = (9, [])
ALL_TIES = (9, pairs(9))
RING = (5, [(0, 1), (0, 4), (1, 2), (2, 3), (3, 4)])
TWO_SIDES = (9, between([0, 2, 4, 6, 8], [1, 3, 5, 7]))
BOW = (6, [(0, 1), (0, 2), (1, 2), (2, 3), (2, 4), (3, 4)])
PETERSEN_LESS_ONE = (9, sorted(ring([0, 1, 2, 3, 4]) + [(1, 5), (2, 6), (3, 7), (4, 8), (5, 7), (5, 8), (6, 8)]))

WEBS = [EMPTY, (1, []), (2, [(0, 1)]), NO_TIES, ALL_TIES, RING, TWO_SIDES, BOW, PETERSEN_LESS_ONE]

WRONG_WEBS = {
    "points just below nought": (-1, []),
    "points far below nought": (-100, []),
    "points below nought, with a tie": (-2, [(0, 1)]),
    "points just above nine": (10, []),
    "points just above nine, with ties": (10, [(0, 1), (0, 2), (1, 2)]),
    "points far above nine": (100, []),
    "a tie twice": (3, [(0, 1), (0, 1)]),
    "a tie twice, others ahead": (4, [(0, 1), (1, 2), (2, 3), (2, 3)]),
    "a tie twice, not side by side": (3, [(0, 1), (0, 2), (0, 1)]),
    "out of order by the first point": (3, [(1, 2), (0, 1)]),
    "out of order by the second point": (3, [(0, 2), (0, 1)]),
    "out of order at the end": (5, [(0, 1), (0, 2), (3, 4), (1, 2)]),
    "the greater point first": (3, [(1, 0)]),
    "the greater point first, others right": (3, [(0, 1), (0, 2), (2, 1)]),
    "a tie both ways": (2, [(0, 1), (1, 0)]),
    "from a point to itself": (3, [(1, 1)]),
    "from nought to itself": (1, [(0, 0)]),
    "the number of points in a tie": (3, [(0, 1), (1, 3)]),
    "a number just below nought": (3, [(-1, 2)]),
    "a number far beyond": (9, [(0, 1), (2, 100)]),
    "a number far below": (9, [(-100, 0), (0, 1)]),
    "no points, but a tie": (0, [(0, 1)]),
    "one point, but a tie": (1, [(0, 1)]),
    "a hundred ties": (9, [(0, 1)] * 100),
}
