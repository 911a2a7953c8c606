"""The triangles of a web, and the webs that have none."""

from threefree.webs import are_tied, refuse_no_web


def triangles(points, ties):
    refuse_no_web(points, ties)
    found = []
    # The ties rise and the third point lies beyond both ends, so each triangle comes once, in rising order.
    for low, middle in ties:
        for high in range(middle + 1, points):
            if are_tied(ties, low, high) and are_tied(ties, middle, high):
                found.append((low, middle, high))
    return found


def is_free(points, ties):
    return len(triangles(points, ties)) == 0
