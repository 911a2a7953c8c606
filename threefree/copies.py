"""Copyings of one point's ties from another's, and roads of them."""

from threefree.errors import NoCopying, NotFree
from threefree.triangles import triangles
from threefree.webs import are_tied, near, refuse_no_web


def copied(points, ties, copying):
    refuse_no_web(points, ties)
    one = copying[0]
    other = copying[1]
    if not may_copy(points, ties, one, other):
        raise NoCopying(f"{copying!r} does not tell two unlike points that are not tied")
    kept = [tie for tie in ties if one not in tie]
    gained = [(min(one, point), max(one, point)) for point in near(points, ties, other)]
    return sorted(kept + gained)


def road(points, ties):
    refuse_not_free(points, ties)
    model = most_tied_point(points, ties)
    # The model keeps its near points, and the points not near it can but lose ties until each is copied in its turn,
    # so the model never has fewer near points than one of them. The points near the model are not tied to one
    # another, since the web is free: behind the road they are tied to all the others, and to none else.
    return [(point, model) for point in range(points) if may_gain(points, ties, point, model)]


def may_copy(points, ties, one, other):
    return is_point(points, one) and is_point(points, other) and one != other and not are_tied(ties, one, other)


def may_gain(points, ties, point, model):
    # Points with the model's own near points keep them along the whole road: to copy one would change nothing.
    return may_copy(points, ties, point, model) and near(points, ties, point) != near(points, ties, model)


def is_point(points, number):
    return 0 <= number and number < points


def refuse_not_free(points, ties):
    found = triangles(points, ties)
    if len(found) > 0:
        raise NotFree(found[0])


def most_tied_point(points, ties):
    best = 0
    for point in range(points):
        if len(near(points, ties, point)) > len(near(points, ties, best)):
            best = point
    return best
