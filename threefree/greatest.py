"""How many ties a free web has at most, and the free webs that have so many."""

from threefree.errors import NoCount
from threefree.triangles import is_free
from threefree.webs import MOST_POINTS


def most(points):
    refuse_no_count(points, 10 ** 30)
    return points * points // 4


def is_greatest(points, ties):
    return is_free(points, ties) and len(ties) == most(points)


def all_greatest(points):
    refuse_no_count(points, MOST_POINTS)
    return sorted([ties_between(points, side) for side in lesser_sides(points)])


def refuse_no_count(points, bound):
    if points < 0 or points > bound:
        raise NoCount(f"{points!r} does not lie between 0 and {bound!r}")


def lesser_sides(points):
    """One side of each greatest web: the one of fewer points, or of two like ones that without the last point."""
    if points % 2 == 0:
        return choices(points - 1, points // 2)
    return choices(points, points // 2)


def choices(points, size):
    """The rising lists of so many of the points."""
    found = [[]]
    for step in range(size):
        longer = []
        for chosen in found:
            first = chosen[-1] + 1 if len(chosen) > 0 else 0
            longer.extend([chosen + [point] for point in range(first, points)])
        found = longer
    return found


def ties_between(points, side):
    ties = []
    for low in range(points):
        for high in range(low + 1, points):
            if (low in side) != (high in side):
                ties.append((low, high))
    return ties
