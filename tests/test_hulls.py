"""[I1] to [I5]: hulls."""

import random
import unittest
from fractions import Fraction
from itertools import combinations, permutations

from meetlots.bounds import MAX_PLACE
from meetlots.errors import InRing
from meetlots.hulls import below, in_order_of, in_ways, on_line, on_plane
from meetlots.learning import is_learning
from meetlots.lots import book_error
from tests import brute
from tests.clock import assert_quick


def told_book(size, rules):
    """The book of some rules as [I1] has it."""
    return (size, tuple(sorted({rule for rule in rules if rule[1]}, key=brute.rule_key)))


def line_by_its_words(places):
    size = len(places)
    return told_book(size, [
        ((a, b), tuple(
            c for c in range(size) if places[a] < places[c] < places[b] or places[b] < places[c] < places[a]
        ))
        for a, b in combinations(range(size), 2)
    ])


def ways_by_their_words(size, edges):
    joined = {frozenset(edge) for edge in edges}
    rules = []
    for a, b in combinations(range(size), 2):
        # All rows of things, the shortest ones first, until one is a way.
        for many in range(size - 1):
            inner = set()
            found = False
            for row in permutations([k for k in range(size) if k not in (a, b)], many):
                whole = (a,) + row + (b,)
                if all(frozenset(step) in joined for step in zip(whole, whole[1:])):
                    found = True
                    inner |= set(row)
            if found:
                rules.append(((a, b), brute.as_lot(inner)))
                break
    return told_book(size, rules)


def under_by_its_words(size, pairs):
    """All pairs of a thing and one that it lies under."""
    found = set(pairs)
    while True:
        more = {(a, d) for a, b in found for c, d in found if b == c} - found
        if not more:
            return found
        found |= more


def order_by_its_words(size, pairs):
    found = under_by_its_words(size, pairs)
    rules = []
    for a, b in combinations(range(size), 2):
        for low, high in ((a, b), (b, a)):
            if (low, high) in found:
                inner = [c for c in range(size) if (low, c) in found and (c, high) in found]
                rules.append(((a, b), tuple(inner)))
    return told_book(size, rules)


def below_by_its_words(size, pairs):
    found = under_by_its_words(size, pairs)
    return told_book(size, [((x,), tuple(y for y in range(size) if (y, x) in found)) for x in range(size)])


def shares(corners, point):
    """How much of each of three corners a point is made of; None if they lie on one straight line."""
    (ax, ay), (bx, by), (cx, cy) = corners
    whole = (bx - ax) * (cy - ay) - (cx - ax) * (by - ay)
    if whole == 0:
        return None
    second = Fraction((point[0] - ax) * (cy - ay) - (cx - ax) * (point[1] - ay), whole)
    third = Fraction((bx - ax) * (point[1] - ay) - (point[0] - ax) * (by - ay), whole)
    return (1 - second - third, second, third)


def is_on_way(start, goal, point):
    """Whether a point is start and goal in some shares, both of them above 0."""
    at = 0 if start[0] != goal[0] else 1
    share = Fraction(point[at] - start[at], goal[at] - start[at])
    return 0 < share < 1 and all(start[k] + share * (goal[k] - start[k]) == point[k] for k in (0, 1))


def plane_by_its_words(points):
    size = len(points)
    rules = [
        (couple, tuple(x for x in range(size) if is_on_way(points[couple[0]], points[couple[1]], points[x])))
        for couple in combinations(range(size), 2)
    ]
    for three in combinations(range(size), 3):
        told = [shares([points[k] for k in three], point) for point in points]
        if None not in told:
            rules.append((three, tuple(x for x in range(size) if min(told[x]) > 0)))
    return told_book(size, rules)


class HullCase(unittest.TestCase):
    def check(self, found, expected, learning=True):
        self.assertEqual(found, expected)
        self.assertIs(book_error(found), None)
        if learning:
            self.assertIs(is_learning(found), True)


class LineTest(HullCase):
    def test_by_its_words(self):
        chance = random.Random(141)
        for size in range(5):
            for places in permutations(range(size)):
                self.check(on_line(places), line_by_its_words(places))
        for _ in range(40):
            places = tuple(chance.sample(range(-50, 50), chance.randint(0, 10)))
            self.check(on_line(places), line_by_its_words(places))

    def test_edges(self):
        self.check(on_line(()), (0, ()))
        self.check(on_line((7,)), (1, ()))
        self.check(on_line((7, -7)), (2, ()))
        self.check(on_line((10 ** 399, 0, -(10 ** 399))), (3, (((0, 2), (1,)),)))
        ten = on_line(tuple(range(10)))
        self.assertEqual(len(ten[1]), 36)
        self.assertEqual(ten[1][:2], (((0, 2), (1,)), ((0, 3), (1, 2))))
        self.assertEqual(on_line(tuple(range(9, -1, -1))), ten)


class WaysTest(HullCase):
    def test_by_their_words(self):
        chance = random.Random(142)
        for size in (2, 3, 4):
            everything = list(combinations(range(size), 2))
            for many in range(len(everything) + 1):
                for edges in combinations(everything, many):
                    self.check(in_ways(size, edges), ways_by_their_words(size, edges), learning=False)
        for _ in range(30):
            size = chance.choice((5, 6))
            edges = tuple(tuple(chance.sample(range(size), 2)) for _ in range(chance.randint(0, 9)))
            self.check(in_ways(size, edges), ways_by_their_words(size, edges), learning=False)

    def test_either_way_and_more_than_once(self):
        found = in_ways(4, ((0, 1), (1, 2), (2, 3)))
        self.assertEqual(in_ways(4, ((3, 2), (1, 0), (2, 1))), found)
        self.assertEqual(in_ways(4, ((3, 2), (1, 0), (2, 1), (1, 2), (2, 3)) * 30), found)

    def test_edges(self):
        self.check(in_ways(0, ()), (0, ()))
        self.check(in_ways(1, ()), (1, ()))
        self.check(in_ways(10, ()), (10, ()))
        self.check(in_ways(10, tuple(combinations(range(10), 2))), (10, ()))
        row = tuple((k, k + 1) for k in range(9))
        self.check(in_ways(10, row), on_line(tuple(range(10))))
        ring = in_ways(5, ((0, 1), (1, 2), (2, 3), (3, 4), (4, 0)))
        self.check(ring, ways_by_their_words(5, ((0, 1), (1, 2), (2, 3), (3, 4), (4, 0))), learning=False)
        self.assertIs(is_learning(ring), False)
        # No way from the first two to the others.
        self.check(in_ways(5, ((0, 1), (2, 3), (3, 4))), (5, (((2, 4), (3,)),)))


class OrderTest(HullCase):
    def check_both(self, size, pairs):
        ringed = [x for x in range(size) if (x, x) in under_by_its_words(size, pairs)]
        if not ringed:
            self.check(in_order_of(size, pairs), order_by_its_words(size, pairs))
            self.check(below(size, pairs), below_by_its_words(size, pairs))
        else:
            for function in (in_order_of, below):
                with self.assertRaises(InRing) as caught:
                    function(size, pairs)
                self.assertEqual(caught.exception.thing, ringed[0])

    def test_by_their_words(self):
        chance = random.Random(143)
        everything = list(permutations(range(3), 2))
        for many in range(len(everything) + 1):
            for pairs in combinations(everything, many):
                self.check_both(3, pairs)
        for _ in range(150):
            size = chance.choice((2, 4, 5, 6, 10))
            rank = chance.sample(range(size), size)
            many = chance.randint(0, 12)
            pairs = [tuple(sorted(chance.sample(range(size), 2), key=rank.index)) for _ in range(many)]
            if pairs and chance.random() < 0.2:
                pairs.append(pairs[0][::-1])
            self.check_both(size, tuple(pairs))

    def test_edges(self):
        for function in (in_order_of, below):
            self.check(function(0, ()), (0, ()))
            self.check(function(1, ()), (1, ()))
            self.check(function(10, ()), (10, ()))
            self.assertEqual(function(3, ((0, 1), (1, 2)) * 40), function(3, ((1, 2), (0, 1))))
        row = tuple((k, k + 1) for k in range(9))
        self.assertEqual(in_order_of(10, row), on_line(tuple(range(10))))
        self.assertEqual(below(10, row), (10, tuple(((k,), tuple(range(k))) for k in range(1, 10))))
        self.assertEqual(in_order_of(3, ((2, 1), (1, 0))), (3, (((0, 2), (1,)),)))

    def test_rings(self):
        for pairs, thing in [
            (((0, 1), (1, 0)), 0), (((2, 1), (1, 2)), 1), (((0, 3), (3, 4), (4, 3)), 3),
            (((4, 3), (3, 2), (2, 4), (0, 1)), 2), (tuple((k, (k + 1) % 5) for k in range(5)), 0),
        ]:
            for function in (in_order_of, below):
                with self.assertRaises(InRing) as caught:
                    function(5, pairs)
                self.assertEqual(caught.exception.thing, thing)


class PlaneTest(HullCase):
    def test_by_its_words(self):
        chance = random.Random(144)
        for _ in range(200):
            many = chance.randint(0, 7)
            wide = chance.choice((2, 3, 4, 40))
            grid = [(x, y) for x in range(-wide, wide) for y in range(-wide, wide)]
            points = tuple(chance.sample(grid, many))
            self.check(on_plane(points), plane_by_its_words(points))

    def test_edges(self):
        self.check(on_plane(()), (0, ()))
        self.check(on_plane(((3, -3),)), (1, ()))
        self.check(on_plane(((0, 0), (1, 1))), (2, ()))
        self.check(on_plane(((0, 0), (2, 2), (1, 1))), (3, (((0, 1), (2,)),)))
        row = tuple((k, 2 * k) for k in range(7))
        self.check(on_plane(row), on_line(tuple(range(7))))
        self.check(on_plane(tuple((5, k) for k in range(7))), on_line(tuple(range(7))))
        self.check(on_plane(tuple((k, k * k) for k in range(7))), (7, ()))

    def test_sides_are_not_within(self):
        corners = ((0, 0), (4, 0), (0, 4))
        self.check(on_plane(corners + ((2, 2),)), (4, (((1, 2), (3,)),)))
        self.check(on_plane(corners + ((1, 1),)), (4, (((0, 1, 2), (3,)),)))
        self.check(on_plane(corners + ((3, 3),)), (4, ()))
        # Beyond a side's end, though straight on with it.
        self.check(on_plane(corners + ((5, 0),)), (4, (((0, 3), (1,)),)))

    def test_far_places(self):
        far = MAX_PLACE
        points = ((-far, -far), (far, far), (0, 0), (-far, far), (0, 1), (1, 0), (far, -far))
        self.check(on_plane(points), plane_by_its_words(points))
        # One next to the straight way, one on it.
        points = ((-far, -far), (far, far), (far - 1, far - 1), (far - 1, far - 2), (1 - far, 2 - far))
        found = on_plane(points)
        self.check(found, plane_by_its_words(points))
        self.assertIn(((0, 1), (2,)), found[1])

    def test_all_couples_and_triples_fit_into_a_book(self):
        # Each of some points has something behind it for many of all 56 couples and triples.
        points = ((0, 0), (100, 0), (50, 100), (50, 30), (50, 40), (50, 35), (49, 36))
        self.check(on_plane(points), plane_by_its_words(points))


class TimeTest(unittest.TestCase):
    def test_calls_at_the_bounds(self):
        assert_quick(self, on_line, tuple(range(10)))
        edges = tuple(permutations(range(10), 2))
        assert_quick(self, in_ways, 10, edges * 30)
        assert_quick(self, in_order_of, 10, tuple(combinations(range(10), 2)) * 60)
        assert_quick(self, below, 10, edges * 30)
        assert_quick(self, on_plane, tuple((MAX_PLACE - k * k, k - MAX_PLACE) for k in range(7)))


if __name__ == "__main__":
    unittest.main()
