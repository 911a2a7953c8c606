"""What a web is, and which points are near one another."""

from threefree.errors import NoWeb

MOST_POINTS = 9


def is_web(points, ties):
    if points < 0 or points > MOST_POINTS:
        return False
    for tie in ties:
        if not is_tie(points, tie):
            return False
    return is_rising(ties)


def near(points, ties, point):
    refuse_no_web(points, ties)
    return [other for other in range(points) if are_tied(ties, point, other)]


def refuse_no_web(points, ties):
    if not is_web(points, ties):
        raise NoWeb("these points and ties are no web")


def is_tie(points, tie):
    return 0 <= tie[0] and tie[0] < tie[1] and tie[1] < points


def is_rising(ties):
    # Each tie is strictly beyond the one ahead of it, so that none stands twice.
    for place in range(1, len(ties)):
        if ties[place] <= ties[place - 1]:
            return False
    return True


def are_tied(ties, one, other):
    # A web holds each tie once only, with the lesser point first.
    return (min(one, other), max(one, other)) in ties
