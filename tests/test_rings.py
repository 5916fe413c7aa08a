"""[H7] to [H9]: the rings of learning books."""

import random
import unittest
from itertools import combinations

from meetlots.books import alike
from meetlots.errors import NotLearning, TooMany
from meetlots.learning import clash, is_learning
from meetlots.lots import book_error
from meetlots.rings import book_of_rings, ring_error, rings
from tests import brute
from tests.clock import assert_quick
from tests.values import ODD

EVERYTHING = tuple(range(10))


def learning_books():
    return brute.learning_books(121, 60)


def ring_key(ring):
    return (ring[0], len(ring[1]), ring[1])


def all_rings(size):
    """All rings of a size, in order."""
    found = [(root, rest) for root in range(size) for rest in brute.tuples_of(size) if rest and root not in rest]
    return sorted(found, key=ring_key)


def rings_of(book):
    """The rings of a learning book, by [H7]'s own words."""
    size = book[0]
    closed = brute.closed_sets(book)
    found = []
    for root, rest in all_rings(size):
        less = [lot for lot in brute.sets_of(size) if lot < set(rest)]
        if root in brute.closure_among(size, closed, rest) \
                and not any(root in brute.closure_among(size, closed, lot) for lot in less):
            found.append((root, rest))
    return tuple(found)


def by_their_words(size, value):
    """What [H8] says of rings of a size that are in order."""
    for i, (root, rest) in enumerate(value):
        for j, (other, further) in enumerate(value):
            if i == j:
                continue
            if root == other and set(rest) <= set(further):
                return (i, j)
            both = ({root, other} | set(rest) | set(further)) - {root}
            if root in further and not any(goal == other and set(lot) <= both for goal, lot in value):
                return (i, j)
    return None


class RingsTest(unittest.TestCase):
    def test_by_their_words(self):
        for book in learning_books():
            found = rings(book)
            self.assertEqual(found, rings_of(book), book)
            self.assertEqual(list(found), sorted(found, key=ring_key))
            self.assertIs(ring_error(book[0], found), None)

    def test_they_tell_the_book(self):
        for book in learning_books():
            found = rings(book)
            if len(found) <= 60:
                self.assertIs(alike(book_of_rings(book[0], found), book), True)

    def test_edges(self):
        self.assertEqual(rings((0, ())), ())
        self.assertEqual(rings((0, (((), ()),) * 60)), ())
        self.assertEqual(rings((10, ())), ())
        self.assertEqual(rings((10, (((9,), (0,)),) * 60)), ((0, (9,)),))
        chain = (10, tuple(((k,), (k + 1,)) for k in range(9)))
        self.assertEqual(rings(chain), tuple((b, (a,)) for b in range(10) for a in range(b)))
        four = tuple(combinations(range(9), 4))
        self.assertEqual(rings((10, tuple((lot, (9,)) for lot in four[:60]))), tuple((9, lot) for lot in four[:60]))

    def test_learning_books_alone(self):
        for book in [(2, (((0,), (1,)), ((1,), (0,)))), (10, (((), (4,)),)), (1, (((), (0,)),) * 60)]:
            with self.assertRaises(NotLearning) as caught:
                rings(book)
            self.assertEqual(caught.exception.paper, clash(book))


class RingErrorTest(unittest.TestCase):
    def test_all_choices_of_rings_of_three_things(self):
        everything = all_rings(3)
        told = {rings_of(book) for book in brute.families(3) if is_learning(book)}
        self.assertEqual(len(everything), 9)
        for chosen in range(512):
            value = tuple(ring for k, ring in enumerate(everything) if chosen & (1 << k))
            found = ring_error(3, value)
            self.assertEqual(found, by_their_words(3, value), value)
            self.assertIs(found is None, value in told)

    def test_rings_of_four_things(self):
        everything = all_rings(4)
        books = [(4, rules) for size, rules in brute.families(4) if is_learning((size, rules))]
        told = {rings(book) for book in books}
        self.assertEqual(len(told), len(books))
        chance = random.Random(122)
        for value in told:
            self.assertIs(ring_error(4, value), None)
            # One ring less or more, or another in its stead.
            changed = set(value) ^ set(chance.sample(everything, chance.randint(1, 2)))
            other = tuple(sorted(changed, key=ring_key))
            found = ring_error(4, other)
            self.assertEqual(found, by_their_words(4, other))
            self.assertIs(found is None, other in told)

    def test_random_choices(self):
        chance = random.Random(123)
        for _ in range(300):
            size = chance.choice((4, 5, 6))
            value = tuple(sorted(chance.sample(all_rings(size), chance.randint(0, 9)), key=ring_key))
            self.assertEqual(ring_error(size, value), by_their_words(size, value))

    def test_wrong_values(self):
        for value in [None, True, False, 0, "", "rings", [], [(0, (1,))], {}, {0: (1,)}, 10 ** 399]:
            self.assertEqual(ring_error(3, value), "rings", value)
        for value in ODD:
            expected = 0 if type(value) is tuple else "rings"
            self.assertEqual(ring_error(3, value), expected, value)

    def test_places(self):
        good = (0, (1,))
        for item in [None, True, 1, "1", [], [1, (2,)], (1,), (1, (2,), ()), (1, [2]), (1, 2), (1, "2"), (1, ()),
                     (1, (1,)), (1, (0, 1)), (1, (3,)), (3, (0,)), (-1, (0,)), (True, (2,)), (1, (False,)),
                     (1, (2, 0)), (1, (0, 0)), ("1", (2,)), (None, (2,)), ((1,), (2,)), (1, None), {1: (2,), 2: (0,)},
                     (10 ** 399, (0,)), (1, (10 ** 399,)), (1, ((2,),))]:
            self.assertEqual(ring_error(3, (good, item)), 1, item)
            self.assertEqual(ring_error(3, (item, good)), 0, item)
        # Such as are not behind the one ahead of them: the same again, a lesser rest, a lesser root.
        for one, other in [((0, (1,)), (0, (1,))), ((0, (2,)), (0, (1,))), ((0, (1, 2)), (0, (1,))),
                           ((1, (0,)), (0, (1,))), ((2, (0,)), (1, (0, 2)))]:
            self.assertEqual(ring_error(3, (one, other)), 1)
        self.assertEqual(ring_error(3, ((0, (1,)), (0, (1, 2)), (0, (2,)))), 2)
        self.assertEqual(ring_error(4, ((0, (3,)), (0, (1, 2)))), None)
        self.assertEqual(ring_error(4, ((0, (1, 2)), (0, (3,)))), 1)
        self.assertIs(type(ring_error(3, (None,))), int)
        self.assertEqual(ring_error(3, (None,) * 2000), 0)

    def test_edges(self):
        self.assertIs(ring_error(0, ()), None)
        self.assertIs(ring_error(10, ()), None)
        self.assertEqual(ring_error(0, ((0, (1,)),)), 0)
        self.assertEqual(ring_error(1, ((0, ()),)), 0)
        self.assertEqual(ring_error(10, ((0, (1,)), (0, (1, 2)))), (0, 1))
        self.assertEqual(ring_error(10, ((0, (9,)), (9, (0,)))), (0, 1))
        self.assertIs(ring_error(10, ((0, (8, 9)), (1, (8, 9)))), None)


class BookOfRingsTest(unittest.TestCase):
    def test_by_its_words(self):
        chance = random.Random(124)
        for _ in range(60):
            size = chance.choice((2, 3, 4, 5))
            value = tuple(chance.choice(all_rings(size)) for _ in range(chance.randint(0, 12)))
            expected = (size, tuple((rest, (root,)) for root, rest in value))
            self.assertEqual(book_of_rings(size, value), expected)
            self.assertIs(book_error(expected), None)

    def test_edges(self):
        self.assertEqual(book_of_rings(0, ()), (0, ()))
        self.assertEqual(book_of_rings(10, ()), (10, ()))
        twice = ((1, (0, 2)), (0, (1,)), (1, (0, 2)))
        self.assertEqual(book_of_rings(3, twice), (3, (((0, 2), (1,)), ((1,), (0,)), ((0, 2), (1,)))))

    def test_sixty_rings_and_one_more(self):
        value = tuple((9, lot) for lot in combinations(range(9), 4))
        found = book_of_rings(10, value[:60])
        self.assertEqual(found, (10, tuple((lot, (9,)) for lot in list(combinations(range(9), 4))[:60])))
        self.assertEqual(len(book_of_rings(10, value[:1] * 60)[1]), 60)
        for wrong in (value[:61], value, value[:1] * 61):
            with self.assertRaises(TooMany) as caught:
                book_of_rings(10, wrong)
            self.assertEqual(caught.exception.limit, 60)


class TimeTest(unittest.TestCase):
    def test_calls_at_the_bounds(self):
        four = tuple(combinations(range(9), 4))
        for book in [(10, ()), (10, tuple((lot, (9,)) for lot in four[:60])),
                     (10, tuple(((k,), (k + 1,)) for k in range(9)))]:
            assert_quick(self, rings, book, seconds=3)
            assert_quick(self, ring_error, 10, rings(book), seconds=3)

    def test_many_rings(self):
        # Four things bring each one that is greater than they are: nothing is at fault, so all is gone through.
        value = tuple((root, rest) for root in range(10) for rest in combinations(range(root), 4))
        self.assertEqual(len(value), 252)
        self.assertIs(ring_error(10, value), None)
        assert_quick(self, ring_error, 10, value, seconds=3)
        many = tuple(
            (root, rest) for root in range(10) for rest in combinations([k for k in range(10) if k != root], 4)
        )
        assert_quick(self, ring_error, 10, many, seconds=3)


if __name__ == "__main__":
    unittest.main()
