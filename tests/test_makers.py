"""[F1] to [F6]: makers."""

import unittest
from itertools import combinations, permutations

from meetlots.books import closed_lots, closure
from meetlots.errors import NotMaker
from meetlots.makers import (
    cheapest_maker, free_lots, keys, left_by, maker_counts, maker_error, makers, needed, never, next_below,
    nonkeys, order_for, spare_thing,
)
from meetlots.turns import hits
from tests import brute
from tests.clock import assert_quick
from tests.values import ODD

EVERYTHING = tuple(range(10))


def many_books():
    return brute.small_books()[::4] + brute.families(3) + brute.random_books(61, 60)


class MakersTest(unittest.TestCase):
    def test_by_their_words(self):
        for book in many_books():
            size = book[0]
            closed = brute.closed_sets(book)
            for lot in brute.tuples_of(size):
                self.assertEqual(makers(book, lot), brute.makers_among(size, closed, lot), (book, lot))
            self.assertEqual(keys(book), brute.makers_among(size, closed, range(size)))

    def test_next_below_by_its_words(self):
        for book in many_books():
            closed = brute.closed_sets(book)
            for lot in brute.tuples_of(book[0]):
                whole = brute.closure_among(book[0], closed, lot)
                expected = brute.lots_in_order(brute.greatest([other for other in closed if other < whole]))
                self.assertEqual(next_below(book, lot), expected)
            self.assertEqual(nonkeys(book), next_below(book, tuple(range(book[0]))))

    def test_a_lot_closes_just_if_it_is_in_none_of_next_below(self):
        for book in brute.random_books(62, 40, sizes=(3, 4)):
            for lot in brute.tuples_of(book[0]):
                whole = closure(book, lot)
                below = next_below(book, lot)
                for other in brute.tuples_of(book[0]):
                    if set(other) <= set(whole):
                        free = not any(set(other) <= set(one) for one in below)
                        self.assertIs(closure(book, other) == whole, free)

    def test_makers_hit_what_next_below_lacks(self):
        for book in many_books():
            for lot in brute.tuples_of(book[0]):
                whole = closure(book, lot)
                lacks = tuple(brute.as_lot(set(whole) - set(one)) for one in next_below(book, lot))
                self.assertEqual(makers(book, lot), hits(book[0], lacks))

    def test_edges(self):
        self.assertEqual(keys((0, ())), ((),))
        self.assertEqual(nonkeys((0, ())), ())
        self.assertEqual(makers((0, (((), ()),) * 60), ()), ((),))
        self.assertEqual(keys((10, ())), (EVERYTHING,))
        self.assertEqual(nonkeys((10, ())), tuple(combinations(range(10), 9)))
        self.assertEqual(keys((10, (((), EVERYTHING),))), ((),))
        self.assertEqual(makers((10, (((), EVERYTHING),) * 60), EVERYTHING), ((),))
        self.assertEqual(nonkeys((10, (((), EVERYTHING),))), ())
        self.assertEqual(next_below((10, (((), (3,)),)), ()), ())
        self.assertEqual(next_below((2, (((), (1,)),)), (0,)), ((1,),))
        self.assertEqual(makers((2, (((0,), (1,)), ((1,), (0,)))), (0, 1)), ((0,), (1,)))

    def test_many_keys(self):
        book = (8, tuple((lot, tuple(range(8))) for lot in combinations(range(8), 5)))
        self.assertEqual(keys(book), tuple(combinations(range(8), 5)))
        self.assertEqual(nonkeys(book), tuple(combinations(range(8), 4)))


class MakerErrorTest(unittest.TestCase):
    def error(self, book, lot, value):
        closed = brute.closed_sets(book)

        def close(things):
            return brute.closure_among(book[0], closed, things)

        told = [("outside", x) for x in value if x not in close(lot)]
        told += [("short", x) for x in sorted(close(lot)) if x not in close(value)]
        told += [("spare", x) for x in value if x in close(set(value) - {x})]
        return told[0] if told else None

    def test_by_its_words(self):
        for book in brute.small_books()[::6] + brute.random_books(63, 25, sizes=(3, 4)):
            lots = brute.tuples_of(book[0])
            for lot in lots:
                for value in lots:
                    found = maker_error(book, lot, value)
                    self.assertEqual(found, self.error(book, lot, value))
                    self.assertIs(found is None, value in makers(book, lot))

    def test_wrong_values(self):
        for value in ODD + [(1, 0), (1, 1), (4,), (1, 4), [1, 2], (True, 2), (1, "2"), ((1, 2),), "12", {1: 2}]:
            self.assertEqual(maker_error((4, ()), (1, 2), value), "lot", value)
        self.assertEqual(maker_error((0, ()), (), (0,)), "lot")
        self.assertEqual(maker_error((10, ()), (), (10,)), "lot")

    def test_edges(self):
        self.assertIs(maker_error((0, ()), (), ()), None)
        self.assertIs(maker_error((10, (((), EVERYTHING),)), EVERYTHING, ()), None)
        self.assertEqual(maker_error((10, (((), EVERYTHING),)), EVERYTHING, (4, 7)), ("spare", 4))
        self.assertEqual(maker_error((10, ()), (0,), (1, 2)), ("outside", 1))
        self.assertEqual(maker_error((10, ()), (0, 9), (9,)), ("short", 0))
        self.assertEqual(maker_error((10, ()), (0, 9), ()), ("short", 0))
        # What is told first is told, also where the others apply.
        chain = (4, (((0,), (1,)), ((1,), (2,))))
        self.assertEqual(maker_error(chain, (0,), (1, 2, 3)), ("outside", 3))
        self.assertEqual(maker_error(chain, (0,), (1, 2)), ("short", 0))
        self.assertEqual(maker_error(chain, (0,), (0, 1, 2)), ("spare", 1))


class FreeTest(unittest.TestCase):
    def test_by_their_words(self):
        for book in many_books():
            closed = brute.closed_sets(book)
            free = []
            for lot in brute.tuples_of(book[0]):
                spares = [x for x in lot if x in brute.closure_among(book[0], closed, set(lot) - {x})]
                self.assertEqual(spare_thing(book, lot), spares[0] if spares else None)
                self.assertIs(not spares, lot in makers(book, lot))
                if not spares:
                    free.append(lot)
            self.assertEqual(free_lots(book), tuple(free))

    def test_edges(self):
        self.assertEqual(free_lots((0, ())), ((),))
        self.assertEqual(free_lots((10, ())), tuple(brute.tuples_of(10)))
        self.assertEqual(free_lots((10, (((), EVERYTHING),))), ((),))
        self.assertIs(spare_thing((0, ()), ()), None)
        self.assertIs(spare_thing((10, ()), EVERYTHING), None)
        self.assertEqual(spare_thing((10, (((), (9,)),)), EVERYTHING), 9)
        self.assertEqual(spare_thing((3, (((0,), (1,)), ((1,), (0,)))), (0, 1)), 0)


class NeededTest(unittest.TestCase):
    def test_by_their_words(self):
        for book in many_books():
            closed = brute.closed_sets(book)
            for lot in brute.tuples_of(book[0]):
                ways = brute.makers_among(book[0], closed, lot)
                whole = brute.closure_among(book[0], closed, lot)
                self.assertEqual(needed(book, lot), tuple(x for x in sorted(whole) if all(x in way for way in ways)))
                self.assertEqual(never(book, lot), tuple(x for x in sorted(whole) if not any(x in way for way in ways)))

    def test_counts_by_their_words(self):
        for book in many_books():
            closed = brute.closed_sets(book)
            expected = tuple(
                (lot, len(brute.makers_among(book[0], closed, lot))) for lot in brute.lots_in_order(closed)
            )
            self.assertEqual(maker_counts(book), expected)

    def test_edges(self):
        self.assertEqual((needed((0, ()), ()), never((0, ()), ())), ((), ()))
        self.assertEqual(needed((10, ()), EVERYTHING), EVERYTHING)
        self.assertEqual(never((10, ()), EVERYTHING), ())
        self.assertEqual(needed((10, (((), EVERYTHING),)), ()), ())
        self.assertEqual(never((10, (((), EVERYTHING),)), ()), EVERYTHING)
        self.assertEqual(maker_counts((0, ())), (((), 1),))
        self.assertEqual(maker_counts((10, (((), EVERYTHING),))), ((EVERYTHING, 1),))
        self.assertEqual(maker_counts((10, ())), tuple((lot, 1) for lot in brute.tuples_of(10)))
        self.assertEqual(maker_counts((2, (((0,), (1,)), ((1,), (0,))))), (((), 1), ((0, 1), 2)))


class OrdersTest(unittest.TestCase):
    def left(self, book, lot, order):
        closed = brute.closed_sets(book)
        whole = brute.closure_among(book[0], closed, lot)
        left = set(whole)
        for thing in order:
            if brute.closure_among(book[0], closed, left - {thing}) == whole:
                left.discard(thing)
        return brute.as_lot(left)

    def test_by_their_words(self):
        for book in brute.small_books()[::8] + brute.families(3)[::2] + brute.random_books(64, 12, sizes=(3, 4)):
            for lot in brute.tuples_of(book[0]):
                ways = {}
                for order in permutations(closure(book, lot)):
                    found = left_by(book, lot, order)
                    self.assertEqual(found, self.left(book, lot, order))
                    ways.setdefault(found, order)
                self.assertEqual(brute.lots_in_order(ways), makers(book, lot))
                for maker, order in ways.items():
                    self.assertEqual(order_for(book, lot, maker), order, (book, lot, maker))

    def test_no_makers(self):
        for book in brute.random_books(65, 30, sizes=(2, 3, 4)):
            for lot in brute.tuples_of(book[0]):
                for maker in brute.tuples_of(book[0]):
                    error = maker_error(book, lot, maker)
                    if error is not None:
                        with self.assertRaises(NotMaker) as caught:
                            order_for(book, lot, maker)
                        self.assertEqual(caught.exception.error, error)

    def test_edges(self):
        self.assertEqual(left_by((0, ()), (), ()), ())
        self.assertEqual(order_for((0, ()), (), ()), ())
        self.assertEqual(left_by((10, (((), EVERYTHING),)), (), EVERYTHING[::-1]), ())
        self.assertEqual(order_for((10, (((), EVERYTHING),)), (3,), ()), EVERYTHING)
        self.assertEqual(order_for((10, ()), EVERYTHING, EVERYTHING), EVERYTHING)
        self.assertEqual(order_for((10, ()), (), ()), ())
        ring = (10, tuple(((k,), ((k + 1) % 10,)) for k in range(10)))
        self.assertEqual(left_by(ring, (4,), EVERYTHING), (9,))
        self.assertEqual(order_for(ring, (4,), (0,)), (1, 2, 3, 4, 5, 6, 7, 8, 9, 0))
        self.assertEqual(order_for(ring, (4,), (9,)), EVERYTHING)


class CheapestTest(unittest.TestCase):
    def check(self, book, lot, weights):
        worth, maker = cheapest_maker(book, lot, weights)
        self.assertEqual(worth, sum(weights[x] for x in maker))
        ways = brute.makers_among(book[0], brute.closed_sets(book), lot)
        least = min(sum(weights[x] for x in way) for way in ways)
        first = [way for way in ways if sum(weights[x] for x in way) == least][0]
        self.assertEqual((worth, maker), (least, first))
        for other in brute.tuples_of(book[0]):
            if closure(book, other) == closure(book, lot):
                self.assertGreaterEqual(sum(weights[x] for x in other), worth)

    def test_by_its_words(self):
        for at, book in enumerate(brute.small_books()[::9] + brute.random_books(66, 40, sizes=(2, 3, 4))):
            size = book[0]
            for weights in [(0,) * size, tuple(range(size)), tuple((at * 7 + k * 5) % 4 for k in range(size))]:
                for lot in brute.tuples_of(size)[::2]:
                    self.check(book, lot, weights)

    def test_edges(self):
        self.assertEqual(cheapest_maker((0, ()), (), ()), (0, ()))
        self.assertEqual(cheapest_maker((10, ()), EVERYTHING, (10 ** 30,) * 10), (10 ** 31, EVERYTHING))
        self.assertEqual(cheapest_maker((10, (((), EVERYTHING),)), (2,), (10 ** 30,) * 10), (0, ()))
        swap = (2, (((0,), (1,)), ((1,), (0,))))
        self.assertEqual(cheapest_maker(swap, (0,), (10 ** 30, 10 ** 30 - 1)), (10 ** 30 - 1, (1,)))
        self.assertEqual(cheapest_maker(swap, (1,), (0, 0)), (0, (0,)))
        self.assertIs(type(cheapest_maker(swap, (1,), (0, 0))), tuple)


class TimeTest(unittest.TestCase):
    def test_calls_at_the_bounds(self):
        books = brute.random_books(67, 2, sizes=(10,), most_rules=60, most_things=4)
        books += [(10, ()), (10, tuple((lot, EVERYTHING) for lot in list(combinations(range(10), 5))[:60]))]
        for book in books:
            for function in (keys, nonkeys, free_lots, maker_counts):
                assert_quick(self, function, book)
            for function in (makers, next_below, spare_thing, needed, never):
                assert_quick(self, function, book, EVERYTHING)
            assert_quick(self, maker_error, book, EVERYTHING, EVERYTHING)
            assert_quick(self, left_by, book, EVERYTHING, EVERYTHING)
            assert_quick(self, order_for, book, EVERYTHING, keys(book)[-1])
            assert_quick(self, cheapest_maker, book, EVERYTHING, (1,) * 10)

    def test_counts_of_great_books(self):
        for book in brute.random_books(68, 3, sizes=(10,), most_rules=60, most_things=4):
            counts = dict(maker_counts(book))
            self.assertEqual(tuple(counts), closed_lots(book))
            self.assertEqual(sum(counts.values()), len(free_lots(book)))
            self.assertEqual(counts[EVERYTHING], len(keys(book)))


if __name__ == "__main__":
    unittest.main()
