"""Hulls: books of which a closed lot keeps all that lies between its things."""

from meetlots.errors import InRing
from meetlots.lots import rules_in_order


def _couples(size):
    """All pairs of things of a size, the lesser one ahead."""
    return [(low, high) for low in range(size) for high in range(low + 1, size)]


def _triples(size):
    """All triples of things of a size, ascending."""
    return [(low, mid, high) for low, mid in _couples(size) for high in range(mid + 1, size)]


def _book(size, rules):
    """The book of those of some rules that have something behind, in order."""
    return (size, rules_in_order([rule for rule in rules if rule[1]]))


def _between(places, low, high):
    """The things that lie between two others on a line."""
    first, last = sorted([places[low], places[high]])
    return tuple([thing for thing, place in enumerate(places) if first < place < last])


def on_line(places):
    """The hull of things on a line: what lies between two of them."""
    size = len(places)
    return _book(size, [(couple, _between(places, couple[0], couple[1])) for couple in _couples(size)])


def _way_lengths(size, edges):
    """For each two things along how many edges a shortest way goes; the size if there is no way."""
    found = [[0 if x == y else size for y in range(size)] for x in range(size)]
    for x, y in edges:
        found[x][y] = 1
        found[y][x] = 1
    for middle in range(size):
        for x in range(size):
            for y in range(size):
                found[x][y] = min(found[x][y], found[x][middle] + found[middle][y])
    return found


def _on_ways(lengths, low, high):
    """The things on the shortest ways between two others."""
    whole = lengths[low][high]
    inner = [thing for thing in range(len(lengths)) if thing not in (low, high)]
    # Where there is no way, any sum is greater than the size, which stands for it.
    return tuple([thing for thing in inner if lengths[low][thing] + lengths[thing][high] == whole])


def in_ways(size, edges):
    """The hull of things joined by edges: what lies on the shortest ways between two of them."""
    lengths = _way_lengths(size, edges)
    return _book(size, [(couple, _on_ways(lengths, couple[0], couple[1])) for couple in _couples(size)])


def _lies_under(size, pairs):
    """For each two things whether the first lies under the second, by pairs one behind the other."""
    found = [[(x, y) in pairs for y in range(size)] for x in range(size)]
    for middle in range(size):
        for x in range(size):
            for y in range(size):
                found[x][y] = found[x][y] or (found[x][middle] and found[middle][y])
    for thing in range(size):
        if found[thing][thing]:
            raise InRing(thing)
    return found


def _inside(under, low, high):
    """The things over the one and under the other of two, of which any may be the lower one."""
    return tuple([
        thing for thing in range(len(under))
        if (under[low][thing] and under[thing][high]) or (under[high][thing] and under[thing][low])
    ])


def in_order_of(size, pairs):
    """The hull of things that lie under one another: what lies over one and under another of them."""
    under = _lies_under(size, pairs)
    return _book(size, [(couple, _inside(under, couple[0], couple[1])) for couple in _couples(size)])


def below(size, pairs):
    """The hull of things that lie under one another: all that lies under one of them."""
    under = _lies_under(size, pairs)
    return _book(size, [
        ((thing,), tuple([other for other in range(size) if under[other][thing]])) for thing in range(size)
    ])


def _turn(start, goal, point):
    """Above 0 if a point lies on the left of the way from a start to a goal, 0 if it lies straight on it."""
    across, up = goal[0] - start[0], goal[1] - start[1]
    return across * (point[1] - start[1]) - up * (point[0] - start[0])


def _is_amid(start, goal, point):
    """Whether a point lies on the straight way between two others."""
    if _turn(start, goal, point) != 0:
        return False
    # Seen from a point amid them the two lie in opposite directions.
    across = (start[0] - point[0]) * (goal[0] - point[0])
    up = (start[1] - point[1]) * (goal[1] - point[1])
    return across + up < 0


def _is_within(corners, point):
    """Whether a point lies strictly within a triangle."""
    one, other, third = corners
    turns = [_turn(one, other, point), _turn(other, third, point), _turn(third, one, point)]
    return min(turns) > 0 or max(turns) < 0


def _around(points, lot):
    """The points that lie amid two, or within three of them."""
    corners = [points[thing] for thing in lot]
    if len(corners) == 2:
        return tuple([x for x, point in enumerate(points) if _is_amid(corners[0], corners[1], point)])
    # Of three on one straight line no point is on one side, so there is nothing within them.
    return tuple([x for x, point in enumerate(points) if _is_within(corners, point)])


def on_plane(points):
    """The hull of points on a plane: what lies between two, or within three of them."""
    size = len(points)
    return _book(size, [(lot, _around(points, lot)) for lot in _couples(size) + _triples(size)])
