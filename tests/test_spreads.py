"""[H10], [H11] and [A2] (e): spreads, and few orders that tell a learning book."""

import random
import unittest
from itertools import combinations, permutations, product

from meetlots.books import closed_lots
from meetlots.errors import NotLearning, TooMany
from meetlots.hulls import on_line
from meetlots.leastbooks import stem
from meetlots.learning import clash, is_learning, is_order, orders
from meetlots.lots import is_lot
from meetlots.makers import maker_counts, makers
from meetlots.rings import book_of_rings, rings
from meetlots.spreads import fewest_orders, made_of_orders, orders_hold, spread, spread_holds
from meetlots.tables import meets
from meetlots.turns import table_of
from tests import brute
from tests.clock import assert_quick
from tests.values import ODD

EVERYTHING = tuple(range(10))
# With four of nine things comes the tenth: of no such book there are few irreducible lots.
FOURS = (10, tuple((lot, (9,)) for lot in list(combinations(range(9), 4))[::2][:60]))


def learning_books():
    return brute.learning_books(131, 60)


def irreducible(book):
    return brute.irreducible_among(book[0], brute.closed_sets(book))


def is_spread(book, value):
    """Whether a tuple of lots is a spread, by [H10]'s own words, of whatever number."""
    known = irreducible(book)
    return (
        all(lot in known for lot in value) and brute.lots_in_order(value) == value
        and not any(set(one) <= set(other) for one, other in permutations(value, 2))
    )


def tails_of(size, rows):
    return [row[k:] for row in rows for k in range(size + 1)]


def tell(book, rows):
    """Whether some orders tell a book, by [H10]'s own words."""
    found = brute.meets_among(book[0], tails_of(book[0], rows))
    return brute.lots_in_order(found) == closed_lots(book)


class SpreadTest(unittest.TestCase):
    def test_as_many_as_there_can_be(self):
        for book in learning_books():
            found = spread(book)
            self.assertTrue(is_spread(book, found), book)
            self.assertEqual(len(found), brute.widest(irreducible(book)), book)
            self.assertIs(spread_holds(book, found), True)
            self.assertEqual(spread(book), found)

    def test_all_choices_of_closed_lots(self):
        for book in brute.learning_books(132, 8):
            if book[0] <= 3:
                lots = closed_lots(book)
                most = brute.widest(irreducible(book))
                for many in range(min(len(lots), 4) + 1):
                    for value in permutations(lots, many):
                        expected = is_spread(book, value) and len(value) == most
                        self.assertIs(spread_holds(book, value), expected, (book, value))

    def test_edges(self):
        self.assertEqual(spread((0, ())), ())
        self.assertEqual(spread((0, (((), ()),) * 60)), ())
        self.assertIs(spread_holds((0, ()), ()), True)
        self.assertIs(spread_holds((0, ()), ((),)), False)
        self.assertEqual(spread((1, ())), ((),))
        self.assertEqual(spread((10, ())), tuple(combinations(range(10), 9)))
        self.assertEqual(len(spread((10, tuple(((k,), (k + 1,)) for k in range(9))))), 1)
        self.assertEqual(len(spread(on_line(EVERYTHING))), 2)
        found = spread(FOURS)
        self.assertTrue(is_spread(FOURS, found))
        self.assertGreater(len(found), 20)

    def test_wrong_values(self):
        line = on_line((0, 1, 2))
        self.assertIs(spread_holds(line, ((0,), (1, 2))), True)
        for value in ODD + [
            [(0,), (1, 2)], ((0,), [1, 2]), ([0], (1, 2)), ((1, 2), (0,)), ((0,), (0,)), ((0,), (2, 1)), ((0,), (1,)),
            ((0,), (1, 2), (1, 2)), ((False,), (1, 2)), ((0,), (True, 2)), ((0,), (1, 3)), ((0,), None), ((0,), 3),
            ((0,),), ((), (1, 2)), ((0,), (0, 1)), ((0, 1, 2), (1, 2)), ((0,), "12"), ((0,), {1: 2}), ((0,), ((1,), 2)),
            ((0, 2), (1, 2)), ((0,), (1, 10 ** 399)), ((0,), (-1, 2)), {(0,): (1, 2)},
        ]:
            self.assertIs(spread_holds(line, value), False, value)
        self.assertIs(spread_holds(line, ((0, 1), (2,))), False)
        self.assertIs(spread_holds(line, ((2,), (0, 1))), True)
        self.assertIs(spread_holds(line, ((0, 1), (1, 2))), True)

    def test_learning_books_alone(self):
        for book in brute.not_learning_books():
            for function, more in [
                (spread, ()), (fewest_orders, ()), (spread_holds, (None,)), (orders_hold, (None,)),
                (spread_holds, ((),)), (orders_hold, ((),)),
            ]:
                with self.assertRaises(NotLearning) as caught:
                    function(book, *more)
                self.assertEqual(caught.exception.paper, clash(book))


class FewestOrdersTest(unittest.TestCase):
    def test_they_tell_the_book(self):
        for book in learning_books():
            found = fewest_orders(book)
            self.assertTrue(all(is_order(book, row) for row in found), book)
            self.assertTrue(tell(book, found), book)
            # As few orders tell it as the lots of its widest spread are.
            self.assertEqual(len(found), brute.widest(irreducible(book)))
            self.assertIs(orders_hold(book, found), True)
            self.assertIs(orders_hold(book, found[::-1]), True)
            self.assertEqual(fewest_orders(book), found)

    def test_no_fewer_tell_it(self):
        for book in brute.learning_books(133, 20):
            rows = brute.orders_among(book[0], brute.closed_sets(book))
            if len(rows) <= 8:
                enough = [
                    many for many in range(len(rows) + 1)
                    if any(tell(book, some) for some in combinations(rows, many))
                ]
                self.assertEqual(len(fewest_orders(book)), min(enough))

    def test_all_choices_of_orders(self):
        for book in brute.learning_books(134, 0):
            rows = list(permutations(range(book[0])))
            few = len(fewest_orders(book))
            for many in range(4):
                for value in product(rows, repeat=many):
                    expected = many == few and all(is_order(book, row) for row in value) and tell(book, value)
                    self.assertIs(orders_hold(book, value), expected, (book, value))

    def test_edges(self):
        self.assertEqual(fewest_orders((0, ())), ())
        self.assertIs(orders_hold((0, ()), ()), True)
        self.assertIs(orders_hold((0, ()), ((),)), False)
        self.assertEqual(fewest_orders((1, ())), ((0,),))
        self.assertEqual(fewest_orders((10, tuple(((k,), (k + 1,)) for k in range(9)))), (EVERYTHING,))
        for book in [(10, ()), on_line(EVERYTHING), FOURS]:
            found = fewest_orders(book)
            self.assertEqual(len(found), len(spread(book)))
            self.assertTrue(all(is_order(book, row) for row in found))
            self.assertIs(orders_hold(book, found), True)
            self.assertIs(orders_hold(book, found[1:]), False)
            self.assertIs(orders_hold(book, found[1:] + found[1:2]), False)

    def test_wrong_values(self):
        line = on_line((0, 1, 2))
        good = ((0, 1, 2), (2, 1, 0))
        self.assertIs(orders_hold(line, good), True)
        for value in ODD + [
            list(good), (list(good[0]), good[1]), (good[0],), good + good, (good[0], good[0]), (good[0], (2, 1)),
            (good[0], (2, 1, 0, 0)), (good[0], (2, 1, 3)), (good[0], (2, True, 0)), (good[0], (2, 1, False)),
            (good[0], None), (good[0], "210"), (good[0], (1, 2, 0)), (good[0], ((2,), 1, 0)), (good[0], (2, 1, -3)),
            {good[0]: good[1]}, (good[0], {2: 0, 1: 0, 0: 0}), (good[0], (2, 1, 1)), (good[0], (2, 1, 10 ** 399)),
        ]:
            self.assertIs(orders_hold(line, value), False, value)


class MadeOfOrdersTest(unittest.TestCase):
    def test_by_its_words(self):
        chance = random.Random(135)
        for _ in range(80):
            size = chance.choice((0, 1, 2, 3, 4, 5))
            rows = tuple(tuple(chance.sample(range(size), size)) for _ in range(chance.randint(1, 5)))
            found = made_of_orders(size, rows)
            self.assertEqual(found, brute.stem_among(size, brute.meets_among(size, tails_of(size, rows))))
            self.assertIs(is_learning(found), True)
            self.assertTrue(all(is_order(found, row) for row in rows))

    def test_from_a_book_and_back(self):
        for book in brute.learning_books(136, 40):
            if book[0]:
                found = made_of_orders(book[0], fewest_orders(book))
                self.assertEqual(closed_lots(found), closed_lots(book))

    def test_edges(self):
        self.assertEqual(made_of_orders(0, ((),)), (0, ()))
        self.assertEqual(made_of_orders(0, ((),) * 60), (0, ()))
        self.assertEqual(made_of_orders(1, ((0,),)), (1, ()))
        self.assertEqual(made_of_orders(10, (EVERYTHING,) * 60), made_of_orders(10, (EVERYTHING,)))
        self.assertEqual(made_of_orders(10, fewest_orders((10, ()))), (10, ()))

    def test_sixty_rules_and_more(self):
        found = made_of_orders(10, fewest_orders(FOURS))
        self.assertEqual(found, stem(FOURS))
        self.assertEqual(len(found[1]), 60)
        # Any four of eight things bring the ninth here: these are 70 rules.
        rows = [tuple(k for k in range(8) if k not in lot) + (8,) + lot for lot in combinations(range(8), 3)]
        self.assertEqual(len(rows), 56)
        with self.assertRaises(TooMany) as caught:
            made_of_orders(9, tuple(rows))
        self.assertEqual(caught.exception.limit, 60)


class WholeTest(unittest.TestCase):
    """[A2] (e)."""

    def test_learning_or_clash(self):
        for book in brute.families(3) + brute.random_books(138, 30):
            self.assertIs(is_learning(book), clash(book) is None)

    def test_one_maker_and_rings(self):
        for book in learning_books():
            self.assertTrue(all(count == 1 for _, count in maker_counts(book)))
            self.assertTrue(all(len(makers(book, lot)) == 1 for lot in brute.tuples_of(book[0])))
            self.assertEqual(closed_lots(book_of_rings(book[0], rings(book))), closed_lots(book))

    def test_irreducible_lots_are_tails(self):
        for book in learning_books():
            if len(irreducible(book)) <= 60:
                self.assertEqual(meets(table_of(book)), closed_lots(book))
            for lot in spread(book):
                self.assertTrue(is_lot(book[0], lot))
                self.assertTrue(any(lot == brute.as_lot(row[book[0] - len(lot):]) for row in orders(book)))


class TimeTest(unittest.TestCase):
    def test_calls_at_the_bounds(self):
        chain = (10, tuple(((k,), (k + 1,)) for k in range(9)))
        for book in [(10, ()), FOURS, chain, on_line(EVERYTHING), brute.random_books(139, 1, sizes=(10,))[0]]:
            assert_quick(self, spread, book, seconds=3)
            assert_quick(self, fewest_orders, book, seconds=3)
        assert_quick(self, spread_holds, FOURS, spread(FOURS), seconds=3)
        assert_quick(self, orders_hold, FOURS, fewest_orders(FOURS), seconds=3)
        assert_quick(self, orders_hold, (10, ()), (EVERYTHING,) * 3000, seconds=3)
        rows = tuple(EVERYTHING[k % 10:] + EVERYTHING[:k % 10] for k in range(60))
        assert_quick(self, made_of_orders, 10, rows, seconds=3)


if __name__ == "__main__":
    unittest.main()
