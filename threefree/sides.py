"""The two sides of a web, or a shortest odd ring where it has none."""

from threefree.webs import near, refuse_no_web


def sides(points, ties):
    refuse_no_web(points, ties)
    ways_by_start = [ways_from(points, ties, start) for start in range(points)]
    rounds = odd_rounds(ties, ways_by_start)
    if len(rounds) == 0:
        return ("hues", [hue(ways) for ways in ways_by_start])
    # A round that meets a point twice falls into two, of which one is odd and shorter: the shortest is a ring.
    return ("ring", min(rounds, key=len))


def ways_from(points, ties, start):
    """A shortest way from the start to each point of its piece, both ends told."""
    ways = {start: [start]}
    layer = [start]
    while len(layer) > 0:
        reached = []
        for point in layer:
            for other in near(points, ties, point):
                if other not in ways:
                    ways[other] = ways[point] + [other]
                    reached.append(other)
        layer = reached
    return ways


def odd_rounds(ties, ways_by_start):
    """The odd rounds of a start, a tie, and the ways to its ends: as short as any odd ring is the shortest of them."""
    rounds = []
    for ways in ways_by_start:
        for low, high in ties:
            if low in ways and len(ways[low]) == len(ways[high]):
                # Both ways begin with the start, which a ring holds once.
                rounds.append(ways[low] + list(reversed(ways[high][1:])))
    return rounds


def hue(ways):
    # Each tie of a way changes the hue, and the least point of the piece has hue 0.
    least = min(list(ways))
    return (len(ways[least]) - 1) % 2
