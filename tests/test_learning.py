"""[H1] to [H6]: learning books, and the orders of their things."""

import unittest
from itertools import combinations, permutations

from meetlots.books import closed_lots, closure
from meetlots.errors import NotClosed, NotLearning, NotOrder, TooFar, TooMany
from meetlots.learning import (
    clash, ends, is_learning, is_order, nth_order, order_count, order_place, orders, ways,
)
from meetlots.makers import makers
from tests import brute
from tests.clock import assert_quick
from tests.values import ODD

EVERYTHING = tuple(range(10))


def many_books():
    return brute.small_books()[::3] + brute.families(3) + brute.random_books(111, 60)


def learning_books():
    return brute.learning_books(112, 40)


def fence(size):
    """A learning book of which the closed lots are all things from a place on, and all up to a place."""
    return (size, tuple(((a, b), tuple(range(a + 1, b))) for a, b in combinations(range(size), 2) if b > a + 1))


def under(size, pairs):
    """A learning book in which the first thing of each pair brings the second."""
    return (size, tuple(((a,), (b,)) for a, b in pairs))


# Found by counting the orders of many books.
THOUSAND = under(9, [(0, 2), (1, 2), (2, 5), (2, 8), (3, 8), (4, 5), (5, 7), (6, 7), (6, 8)])
THOUSAND_AND_ONE = under(9, [(0, 2), (0, 4), (1, 3), (1, 4), (2, 5), (3, 7), (6, 7), (7, 8)])


class ClashTest(unittest.TestCase):
    def by_its_words(self, book):
        size = book[0]
        closed = brute.closed_sets(book)
        least = sorted(brute.closure_among(size, closed, ()))
        if least:
            return ((), least[0], least[0])
        for lot in closed:
            for x, y in combinations([k for k in range(size) if k not in lot], 2):
                if brute.closure_among(size, closed, lot | {x}) == brute.closure_among(size, closed, lot | {y}):
                    return (brute.as_lot(lot), x, y)
        return None

    def test_by_its_words(self):
        for book in many_books() + learning_books():
            expected = self.by_its_words(book)
            self.assertEqual(clash(book), expected, book)
            self.assertIs(is_learning(book), expected is None)
            self.assertIs(is_learning(book), brute.is_learning(book[0], brute.closed_sets(book)))

    def test_just_if_each_closed_lot_grows_by_one_thing(self):
        for book in many_books() + learning_books():
            closed = brute.closed_sets(book)
            if frozenset() in closed:
                grows = all(
                    len(lot) == book[0] or any(lot | {x} in closed for x in range(book[0]) if x not in lot)
                    for lot in closed
                )
                self.assertIs(is_learning(book), grows)

    def test_edges(self):
        self.assertIs(clash((0, ())), None)
        self.assertIs(is_learning((0, (((), ()),) * 60)), True)
        self.assertIs(clash((10, ())), None)
        self.assertEqual(clash((10, (((), (7, 9)),))), ((), 7, 7))
        self.assertEqual(clash((10, (((), EVERYTHING),) * 60)), ((), 0, 0))
        self.assertEqual(clash((2, (((0,), (1,)), ((1,), (0,))))), ((), 0, 1))
        self.assertEqual(clash((10, (((8,), (9,)), ((9,), (8,))))), ((), 8, 9))
        self.assertEqual(clash((3, (((0, 1), (2,)), ((0, 2), (1,))))), ((0,), 1, 2))
        self.assertIs(is_learning((3, (((0, 1), (2,)),))), True)
        # The least x comes ahead of the least y.
        self.assertEqual(clash((4, (((0,), (3,)), ((3,), (0,)), ((1,), (2,)), ((2,), (1,))))), ((), 0, 3))


class EndsTest(unittest.TestCase):
    def test_by_their_words(self):
        for book in many_books() + learning_books():
            closed = brute.closed_sets(book)
            for lot in brute.tuples_of(book[0]):
                if frozenset(lot) in closed:
                    expected = tuple(x for x in lot if frozenset(lot) - {x} in closed)
                    self.assertEqual(ends(book, lot), expected)
                else:
                    with self.assertRaises(NotClosed) as caught:
                        ends(book, lot)
                    self.assertEqual(caught.exception.lot, lot)

    def test_in_learning_books_they_close_to_the_lot(self):
        for book in learning_books():
            for lot in closed_lots(book):
                self.assertEqual(closure(book, ends(book, lot)), lot)
                self.assertEqual(makers(book, lot), (ends(book, lot),))
                for other in brute.tuples_of(book[0]):
                    between = set(ends(book, lot)) <= set(other) <= set(lot)
                    self.assertIs(closure(book, other) == lot, between)

    def test_each_lot_of_a_learning_book_has_one_maker(self):
        for book in learning_books():
            for lot in brute.tuples_of(book[0]):
                self.assertEqual(makers(book, lot), (ends(book, closure(book, lot)),))

    def test_in_other_books_some_lot_shows_it(self):
        for book in many_books():
            shown = [
                lot for lot in closed_lots(book)
                if closure(book, ends(book, lot)) != lot or (lot and not ends(book, lot))
            ]
            self.assertIs(bool(shown), not is_learning(book))

    def test_edges(self):
        self.assertEqual(ends((0, ()), ()), ())
        self.assertEqual(ends((10, ()), EVERYTHING), EVERYTHING)
        self.assertEqual(ends((10, (((), EVERYTHING),)), EVERYTHING), ())
        with self.assertRaises(NotClosed) as caught:
            ends((10, (((), (9,)),)), ())
        self.assertEqual(caught.exception.lot, ())


class OrdersTest(unittest.TestCase):
    def test_by_their_words(self):
        for book in learning_books():
            expected = brute.orders_among(book[0], brute.closed_sets(book))
            self.assertEqual(orders(book), expected, book)
            self.assertEqual(order_count(book), len(expected))
            for place, order in enumerate(expected):
                self.assertEqual(nth_order(book, place), order)
                self.assertEqual(order_place(book, order), place)
            for place in (len(expected), len(expected) + 1, 10 ** 399):
                with self.assertRaises(TooFar) as caught:
                    nth_order(book, place)
                self.assertEqual(caught.exception.count, len(expected))

    def test_all_rows(self):
        for book in learning_books():
            expected = brute.orders_among(book[0], brute.closed_sets(book))
            closed = closed_lots(book)
            for row in permutations(range(book[0])):
                self.assertIs(is_order(book, row), row in expected)
                if row not in expected:
                    bad = [k for k in range(book[0]) if tuple(sorted(row[k:])) not in closed]
                    with self.assertRaises(NotOrder) as caught:
                        order_place(book, row)
                    self.assertEqual(caught.exception.place, bad[0])

    def test_wrong_values(self):
        book = (3, (((0, 2), (1,)),))
        self.assertIs(is_order(book, (0, 1, 2)), True)
        for value in ODD + [[0, 1, 2], (0, 1), (0, 1, 2, 2), (0, 1, 1), (0, 0, 2), (0, 1, 3), (-1, 1, 2), (0, True, 2),
                            (False, 1, 2), ("0", "1", "2"), "012", ((0,), (1,), (2,)), ((0, 1, 2),), (0, 1, None),
                            {0: 0, 1: 1, 2: 2}, (0, 1, (2,)), (0, 1, [2]), (0, 1, 10 ** 399)]:
            self.assertIs(is_order(book, value), False, value)
        for value in [[], None, False, "", {}, ((),), (0,)]:
            self.assertIs(is_order((0, ()), value), False, value)

    def test_edges(self):
        self.assertEqual(orders((0, ())), ((),))
        self.assertEqual(order_count((0, ())), 1)
        self.assertEqual(nth_order((0, ()), 0), ())
        self.assertEqual(order_place((0, ()), ()), 0)
        self.assertIs(is_order((0, ()), ()), True)
        with self.assertRaises(TooFar) as caught:
            nth_order((0, ()), 1)
        self.assertEqual(caught.exception.count, 1)
        chain = (10, tuple(((k,), (k + 1,)) for k in range(9)))
        self.assertEqual(orders(chain), (EVERYTHING,))
        with self.assertRaises(NotOrder) as caught:
            order_place(chain, EVERYTHING[::-1])
        self.assertEqual(caught.exception.place, 1)
        with self.assertRaises(NotOrder) as caught:
            order_place(chain, EVERYTHING[:8] + (9, 8))
        self.assertEqual(caught.exception.place, 9)

    def test_ten_free_things(self):
        book = (10, ())
        self.assertEqual(order_count(book), 3628800)
        self.assertEqual(nth_order(book, 0), EVERYTHING)
        self.assertEqual(nth_order(book, 3628799), EVERYTHING[::-1])
        self.assertEqual(nth_order(book, 1), EVERYTHING[:8] + (9, 8))
        self.assertEqual(order_place(book, EVERYTHING[::-1]), 3628799)
        self.assertEqual(order_place(book, nth_order(book, 1234567)), 1234567)
        with self.assertRaises(TooFar) as caught:
            nth_order(book, 3628800)
        self.assertEqual(caught.exception.count, 3628800)

    def test_a_thousand_orders_and_more(self):
        for book, many in [((6, ()), 720), (fence(10), 512), (THOUSAND, 1000)]:
            found = orders(book)
            self.assertEqual((len(found), order_count(book)), (many, many))
            self.assertEqual(list(found), sorted(set(found)))
            for place in (0, 1, many // 2, many - 1):
                self.assertEqual(nth_order(book, place), found[place])
                self.assertEqual(order_place(book, found[place]), place)
        for book, many in [((7, ()), 5040), (THOUSAND_AND_ONE, 1001), ((10, ()), 3628800)]:
            self.assertEqual(order_count(book), many)
            with self.assertRaises(TooMany) as caught:
                orders(book)
            self.assertEqual(caught.exception.limit, 1000)
            self.assertEqual(order_place(book, nth_order(book, many - 1)), many - 1)

    def test_learning_books_alone(self):
        for book in [(2, (((0,), (1,)), ((1,), (0,)))), (10, (((), (4,)),)), (10, (((), EVERYTHING),) * 60),
                     (4, (((0,), (1,)), ((1, 2), (3,)), ((3,), (0,))))]:
            row = tuple(range(book[0]))
            for function, arguments in [
                (is_order, (None,)), (is_order, (row,)), (order_count, ()), (orders, ()), (nth_order, (0,)),
                (nth_order, (10 ** 399,)), (order_place, (row,)), (order_place, (row[::-1],)), (ways, (1,)),
            ]:
                with self.assertRaises(NotLearning) as caught:
                    function(book, *arguments)
                self.assertEqual(caught.exception.paper, clash(book))


class FamiliesTest(unittest.TestCase):
    def test_tails_of_orders(self):
        """[H5]: which families are those of the tails of the orders of a learning book."""
        told = set()
        for book in brute.families(3):
            if is_learning(book):
                tails = {brute.as_lot(order[k:]) for order in orders(book) for k in range(4)}
                told.add(brute.lots_in_order(tails))
        for book in brute.families(3):
            lots = closed_lots(book)
            grows = all(
                len(lot) == 3 or any(brute.as_lot(lot + (x,)) in lots for x in range(3) if x not in lot) for lot in lots
            )
            self.assertIs(lots in told, () in lots and grows)

    def test_tails_are_the_closed_lots(self):
        for book in learning_books():
            if order_count(book) <= 1000:
                tails = {brute.as_lot(order[k:]) for order in orders(book) for k in range(book[0] + 1)}
                self.assertEqual(brute.lots_in_order(tails), closed_lots(book))


class WaysTest(unittest.TestCase):
    def test_by_their_words(self):
        for book in learning_books():
            everything = frozenset(range(book[0]))
            opened = [everything - lot for lot in brute.closed_sets(book)]
            for one in opened:
                for other in opened:
                    self.assertIn(one | other, opened)
            for thing in range(book[0]):
                expected = brute.lots_in_order(brute.least([lot for lot in opened if thing in lot]))
                self.assertEqual(ways(book, thing), expected)
                for way in expected:
                    # It loses just the one thing that it is a way to.
                    self.assertEqual([x for x in way if frozenset(way) - {x} in opened], [thing])

    def test_edges(self):
        self.assertEqual(ways((1, ()), 0), ((0,),))
        self.assertEqual(ways((10, ()), 9), ((9,),))
        chain = (10, tuple(((k,), (k + 1,)) for k in range(9)))
        self.assertEqual(ways(chain, 9), (EVERYTHING,))
        self.assertEqual(ways(chain, 0), ((0,),))
        self.assertEqual(ways(fence(5), 2), ((0, 1, 2), (2, 3, 4)))


class TimeTest(unittest.TestCase):
    def test_calls_at_the_bounds(self):
        books = brute.random_books(113, 2, sizes=(10,), most_rules=60, most_things=4)
        books += [(10, ()), fence(10), (10, tuple((lot, (9,)) for lot in list(combinations(range(9), 4))[:60]))]
        for book in books:
            for function in (is_learning, clash, order_count, orders):
                assert_quick(self, function, book, seconds=3)
            assert_quick(self, ends, book, EVERYTHING, seconds=3)
            assert_quick(self, is_order, book, EVERYTHING, seconds=3)
            assert_quick(self, nth_order, book, 0, seconds=3)
            assert_quick(self, order_place, book, EVERYTHING, seconds=3)
            assert_quick(self, ways, book, 9, seconds=3)


if __name__ == "__main__":
    unittest.main()
