"""[K1] to [K4] and [A2] (h): weights, and papers that show that no closed lot is heavier."""

import random
import unittest
from itertools import product

from meetlots.books import closed_lots, closure
from meetlots.errors import NotSingle
from meetlots.singles import apart, is_single
from meetlots.weighing import (
    all_heaviest, heaviest, heavy_bound, heavy_paper, heavy_paper_holds, leeway, lightest_over, weight,
)
from tests import brute
from tests.clock import assert_quick
from tests.values import ODD

FAR = 10 ** 30
EVERYTHING = tuple(range(10))
CHAIN = (10, tuple(((k,), (k + 1,)) for k in range(9)))
# Each of the first five things leads to each of the others, but to the one below it.
CROSS = (10, tuple(((x,), tuple(y for y in range(5, 10) if y != x + 5)) for x in range(5)))
NOT_SINGLE = (3, (((0, 1), (2,)),))


def many_books():
    return brute.small_books()[::4] + brute.families(3) + brute.random_books(171, 40)


def single_books():
    chance = random.Random(172)
    books = [book for book in brute.families(3) if is_single(book)]
    for _ in range(60):
        size = chance.choice((2, 3, 4, 5, 6))
        rules = tuple(
            (brute.random_lot(chance, size, 1), brute.random_lot(chance, size, 2)) for _ in range(chance.randint(0, 7))
        )
        # Few of the books have things in the closure of ().
        books.append((size, tuple(rule for rule in rules if rule[0] or chance.random() < 0.2)))
    return books + [(0, ()), (1, ()), (1, (((), (0,)),))]


def random_weights(chance, size):
    wide = chance.choice((1, 2, 9, FAR))
    return tuple(chance.choice((-wide, wide, 0, chance.randint(-wide, wide))) for _ in range(size))


def worth(weights, lot):
    return sum(weights[thing] for thing in lot)


def heaviest_among(lots, weights):
    """All heaviest ones of some lots."""
    return tuple(lot for lot in lots if not any(worth(weights, other) > worth(weights, lot) for other in lots))


def leads(book):
    """All pairs of a thing and another one that it leads to, by [K4]'s own words."""
    return [(x, y) for x in range(book[0]) for y in closure(book, (x,)) if x != y]


def bound_by_its_words(book, weights, paper):
    root = closure(book, ())
    rests = [
        weights[x] - sum(amount for a, b, amount in paper if a == x) + sum(amount for a, b, amount in paper if b == x)
        for x in range(book[0])
    ]
    return sum(rests[x] for x in root) + sum(rests[x] for x in range(book[0]) if x not in root and rests[x] > 0)


def is_paper(book, value):
    pairs = [item[:2] for item in value]
    return pairs == sorted(set(pairs)) and all(item[:2] in leads(book) and item[2] > 0 for item in value)


class HeaviestTest(unittest.TestCase):
    def test_by_their_words(self):
        chance = random.Random(173)
        for book in many_books():
            weights = random_weights(chance, book[0])
            lots = closed_lots(book)
            found = heaviest_among(lots, weights)
            self.assertEqual(all_heaviest(book, weights), found, (book, weights))
            self.assertEqual(heaviest(book, weights), found[0])
            for lot in brute.tuples_of(book[0]):
                self.assertEqual(weight(weights, lot), worth(weights, lot))
                over = [other for other in lots if set(lot) <= set(other)]
                least = min(worth(weights, other) for other in over)
                first = [other for other in over if worth(weights, other) == least][0]
                self.assertEqual(lightest_over(book, weights, lot), first, (book, weights, lot))

    def test_edges(self):
        self.assertEqual(weight((), ()), 0)
        self.assertEqual(weight((FAR,) * 10, EVERYTHING), 10 * FAR)
        self.assertEqual(heaviest((0, ()), ()), ())
        self.assertEqual(all_heaviest((0, ()), ()), ((),))
        self.assertEqual(lightest_over((0, ()), (), ()), ())
        self.assertEqual(all_heaviest((2, ()), (0, 0)), ((), (0,), (1,), (0, 1)))
        self.assertEqual(heaviest((10, ()), (FAR,) * 10), EVERYTHING)
        self.assertEqual(heaviest((10, ()), (-FAR,) * 10), ())
        self.assertEqual(len(all_heaviest((10, ()), (0,) * 10)), 1024)
        rooted = (2, (((), (1,)),))
        self.assertEqual(heaviest(rooted, (-1, -FAR)), (1,))
        self.assertEqual(lightest_over(rooted, (-FAR, FAR), ()), (0, 1))
        self.assertEqual(lightest_over(CHAIN, (0,) * 10, (4,)), (4, 5, 6, 7, 8, 9))

    def test_leeway(self):
        chance = random.Random(174)
        for book in many_books():
            weights = random_weights(chance, book[0])
            lots = closed_lots(book)
            lot = heaviest(book, weights)
            for thing in range(book[0]):
                self.check_leeway(book, weights, lots, lot, thing)

    def check_leeway(self, book, weights, lots, lot, thing):
        def stays(change):
            changed = weights[:thing] + (weights[thing] + change,) + weights[thing + 1:]
            return lot in heaviest_among(lots, changed)

        found = leeway(book, weights, thing)
        way = -1 if thing in lot else 1
        if found is None:
            self.assertEqual((way, thing in closure(book, ())), (-1, True))
            self.assertTrue(stays(-100 * FAR))
        else:
            self.assertGreaterEqual(found, 0)
            self.assertTrue(stays(way * found))
            self.assertFalse(stays(way * (found + 1)))

    def test_leeway_at_the_edges(self):
        self.assertEqual(leeway((1, ()), (0,), 0), 0)
        self.assertEqual(leeway((1, ()), (-FAR,), 0), FAR)
        self.assertEqual(leeway((1, ()), (FAR,), 0), FAR)
        self.assertIs(leeway((1, (((), (0,)),)), (-FAR,), 0), None)
        self.assertEqual(leeway((2, (((), (0,)), ((), (1,)))), (1, 1), 1), None)
        self.assertEqual(leeway((10, ()), (FAR,) * 9 + (-FAR,), 9), FAR)


class PaperTest(unittest.TestCase):
    def test_the_least_bound(self):
        """[A2] (h): the greatest weight of closed lots is the least bound of all papers."""
        chance = random.Random(175)
        for book in single_books():
            for _ in range(4):
                weights = random_weights(chance, book[0])
                most = worth(weights, heaviest(book, weights))
                paper = heavy_paper(book, weights)
                self.assertTrue(is_paper(book, paper), (book, weights, paper))
                self.assertEqual(bound_by_its_words(book, weights, paper), most, (book, weights, paper))
                self.assertEqual(heavy_bound(book, weights, paper), most)
                self.assertIs(heavy_paper_holds(book, weights, paper), True)
                self.assertEqual(heavy_paper(book, weights), paper)
                self.check_papers(chance, book, weights, most)

    def check_papers(self, chance, book, weights, most):
        """No paper has a lesser bound."""
        pairs = leads(book)
        for _ in range(5):
            some = sorted(chance.sample(pairs, chance.randint(0, min(4, len(pairs)))))
            paper = tuple(pair + (chance.choice((1, 2, 5, FAR)),) for pair in some)
            bound = bound_by_its_words(book, weights, paper)
            self.assertEqual(heavy_bound(book, weights, paper), bound)
            self.assertGreaterEqual(bound, most)
            self.assertIs(heavy_paper_holds(book, weights, paper), bound == most)

    def test_all_small_papers(self):
        chance = random.Random(176)
        for book in [book for book in brute.families(2) + brute.families(3)[::2] if is_single(book)]:
            weights = tuple(chance.randint(-3, 3) for _ in range(book[0]))
            pairs = leads(book)
            if len(pairs) <= 4:
                bounds = []
                for amounts in product(range(4), repeat=len(pairs)):
                    paper = tuple(pair + (amount,) for pair, amount in zip(pairs, amounts) if amount)
                    bounds.append(heavy_bound(book, weights, paper))
                self.assertEqual(min(bounds), worth(weights, heaviest(book, weights)))

    def test_what_is_given_back(self):
        # What is given first to one thing has to be given to another one, as that has no other giver.
        book = (6, (((0,), (3, 4)), ((1,), (3,)), ((2,), (4, 5))))
        for weights in [(1, 1, 1, -1, -1, -1), (3, 3, 3, -3, -3, -3), (FAR, FAR, FAR, -FAR, -FAR, -FAR), (5, 1, 2, -2, -4, -1)]:
            paper = heavy_paper(book, weights)
            self.assertTrue(is_paper(book, paper), paper)
            self.assertEqual(heavy_bound(book, weights, paper), worth(weights, heaviest(book, weights)))
        for weights in product((-2, 3), repeat=10):
            paper = heavy_paper(CROSS, weights) if sum(weights[:5]) > 5 else ()
            if paper:
                self.assertEqual(heavy_bound(CROSS, weights, paper), worth(weights, heaviest(CROSS, weights)))

    def test_edges(self):
        self.assertEqual(heavy_paper((0, ()), ()), ())
        self.assertEqual(heavy_bound((0, ()), (), ()), 0)
        self.assertIs(heavy_paper_holds((0, ()), (), ()), True)
        self.assertEqual(heavy_paper((10, ()), (FAR,) * 10), ())
        self.assertEqual(heavy_bound((10, ()), (FAR,) * 5 + (-FAR,) * 5, ()), 5 * FAR)
        # What the empty lot brings counts, be it above 0 or not.
        rooted = (2, (((), (0,)),))
        self.assertEqual(heavy_bound(rooted, (-5, -5), ()), -5)
        self.assertEqual(heavy_bound(rooted, (-5, 3), ((1, 0, 2),)), -2)
        self.assertIs(heavy_paper_holds(rooted, (-5, 3), ((1, 0, 2),)), True)
        self.assertIs(heavy_paper_holds(rooted, (-5, 3), ((1, 0, 4),)), False)

    def test_wrong_values(self):
        book = (3, (((0,), (1,)), ((0,), (2,))))
        weights = (5, -2, -4)
        self.assertIs(heavy_paper_holds(book, weights, ((0, 1, 1), (0, 2, 4))), True)
        for value in ODD + [
            [(0, 1, 1), (0, 2, 4)], ([0, 1, 1], (0, 2, 4)), ((0, 2, 4), (0, 1, 1)), ((0, 1, 1), (0, 1, 1), (0, 2, 3)),
            ((0, True, 1), (0, 2, 4)), ((False, 1, 1), (0, 2, 4)), ((0, 1, True), (0, 2, 4)), ((0, 1, 1), (0, 2, "4")),
            ((0, 1, 1), (0, 2, 4), (1, 2, 1)), ((0, 0, 1), (0, 1, 1), (0, 2, 4)), ((0, 1, 1), (0, 3, 4)),
            ((0, 1, 0), (0, 2, 5)), ((0, 1, -1), (0, 2, 6)), ((0, 1, 1), (0, 2)), ((0, 1, 1), (0, 2, 4, 0)),
            ((0, 1, 1), None), ((0, 1, 1), (0, 2, None)), ((0, 1, 1), (0, 2, (4,))), {0: (0, 1, 1), 1: (0, 2, 4)},
            ((0, 1, 1), (0, 2, 10 ** 399)), ((-3, 1, 1), (0, 2, 4)), ((0, 1, 1), (0, 10 ** 399, 4)),
            ((0, 1, 1), (0, 2, 4), (2, 1, 1)),
        ]:
            self.assertIs(heavy_paper_holds(book, weights, value), False, value)
        # By these amounts the bound would be 0, as it has to be.
        self.assertIs(heavy_paper_holds(book, (4, -2, -4), ((0, 2, 4),)), True)
        self.assertIs(heavy_paper_holds(book, (4, -2, -4), ((0, 1, 0), (0, 2, 4))), False)
        self.assertIs(heavy_paper_holds(book, (3, -2, -4), ((0, 1, -1), (0, 2, 4))), False)

    def test_not_single(self):
        for book in [NOT_SINGLE] + [book for book in brute.families(3) if not is_single(book)][:8]:
            weights = (0,) * book[0]
            for function, more in [(heavy_paper, ()), (heavy_bound, ((),))]:
                with self.assertRaises(NotSingle) as caught:
                    function(book, weights, *more)
                self.assertEqual(caught.exception.pair, apart(book))
            for value in ODD + [(), ((0, 1, 1),)]:
                self.assertIs(heavy_paper_holds(book, weights, value), False)


class TimeTest(unittest.TestCase):
    def test_calls_at_the_bounds(self):
        fours = brute.random_books(177, 1, sizes=(10,), most_rules=60, most_things=4)[0]
        weights = tuple((-1) ** k * (FAR - k) for k in range(10))
        for book in [(10, ()), CHAIN, CROSS, (10, CROSS[1] * 12), fours]:
            for function in (heaviest, all_heaviest, heavy_paper):
                assert_quick(self, function, book, weights, seconds=3)
            assert_quick(self, heavy_paper, book, (FAR, FAR - 1, 3, 2, 1, -FAR, -2, -3, -4, -5), seconds=3)
            assert_quick(self, lightest_over, book, weights, (3,), seconds=3)
            assert_quick(self, leeway, book, weights, 3, seconds=3)
            assert_quick(self, heavy_bound, book, weights, (), seconds=3)
            assert_quick(self, heavy_paper_holds, book, weights, ((0, 1, 1),) * 3000, seconds=3)


if __name__ == "__main__":
    unittest.main()
