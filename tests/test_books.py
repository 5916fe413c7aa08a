"""[B1] to [B5]: closed lots, and what follows."""

import unittest

from meetlots.books import (
    alike, breaking, closed_lots, closure, follows, is_closed, parting, rounds, steps, steps_hold,
)
from meetlots.errors import Unfit
from tests import brute
from tests.values import ODD

EVERYTHING = tuple(range(10))
CHAIN = (10, tuple(((k,), (k + 1,)) for k in range(9)))


def many_books():
    return brute.small_books()[::3] + brute.families(3) + brute.random_books(11, 120)


class ClosureTest(unittest.TestCase):
    def test_by_all_lots(self):
        for book in many_books():
            size = book[0]
            closed = brute.closed_sets(book)
            self.assertEqual(closed_lots(book), tuple(brute.as_lot(lot) for lot in closed), book)
            for lot in brute.tuples_of(size):
                expected = brute.as_lot(brute.closure_among(size, closed, lot))
                self.assertEqual(closure(book, lot), expected, (book, lot))
                self.assertIs(is_closed(book, lot), frozenset(lot) in closed)

    def test_edges(self):
        self.assertEqual(closure((0, ()), ()), ())
        self.assertEqual(closed_lots((0, ())), ((),))
        self.assertEqual(closed_lots((0, (((), ()),) * 60)), ((),))
        self.assertEqual(closed_lots((10, ())), tuple(brute.tuples_of(10)))
        self.assertEqual(closed_lots((10, (((), EVERYTHING),))), (EVERYTHING,))
        self.assertEqual(closure((10, (((), EVERYTHING),) * 60), ()), EVERYTHING)
        self.assertIs(is_closed((10, (((), EVERYTHING),)), EVERYTHING), True)
        self.assertIs(is_closed((10, ()), ()), True)
        self.assertEqual(closure(CHAIN, (3, 7)), (3, 4, 5, 6, 7, 8, 9))
        self.assertEqual(closed_lots(CHAIN), tuple(tuple(range(k, 10)) for k in range(10, -1, -1)))

    def test_empty_ahead_or_behind(self):
        self.assertEqual(closure((2, (((), (1,)),)), ()), (1,))
        self.assertEqual(closed_lots((2, (((), (1,)),))), ((1,), (0, 1)))
        self.assertEqual(closed_lots((2, (((0, 1), ()), ((0,), ())))), ((), (0,), (1,), (0, 1)))

    def test_great_books(self):
        for book in brute.random_books(12, 6, sizes=(10,), most_rules=60, most_things=4):
            closed = brute.closed_sets(book)
            self.assertEqual(closed_lots(book), tuple(brute.as_lot(lot) for lot in closed))
            for lot in brute.tuples_of(10)[::37]:
                self.assertEqual(closure(book, lot), brute.as_lot(brute.closure_among(10, closed, lot)))

    def test_meets_of_closed_lots(self):
        for book in brute.random_books(13, 40):
            closed = [set(lot) for lot in closed_lots(book)]
            for a in closed:
                for b in closed:
                    self.assertIn(a & b, closed)
            self.assertIn(set(range(book[0])), closed)


class RoundsTest(unittest.TestCase):
    def test_by_their_words(self):
        for book in many_books():
            for lot in brute.tuples_of(book[0]):
                found = rounds(book, lot)
                self.assertEqual(found[0], lot)
                self.assertEqual(found[-1], closure(book, lot))
                for one, behind in zip(found, found[1:]):
                    self.assertEqual(behind, brute.as_lot(brute.one_round(book[1], one)))
                    self.assertLess(set(one), set(behind))

    def test_edges(self):
        self.assertEqual(rounds((0, ()), ()), ((),))
        self.assertEqual(rounds((10, ()), EVERYTHING), (EVERYTHING,))
        self.assertEqual(rounds((2, (((), ()),)), (1,)), ((1,),))
        self.assertEqual(rounds((2, (((), (1,)), ((1,), (0,)))), ()), ((), (1,), (0, 1)))
        self.assertEqual(len(rounds(CHAIN, (0,))), 10)
        backward = (10, tuple(reversed(CHAIN[1])))
        self.assertEqual(rounds(backward, (0,)), rounds(CHAIN, (0,)))


class FollowsTest(unittest.TestCase):
    def test_it_follows_or_a_closed_lot_breaks_it(self):
        for book in brute.small_books()[::5] + brute.families(3) + brute.random_books(14, 25, sizes=(3, 4)):
            closed = brute.closed_sets(book)
            lots = brute.tuples_of(book[0])
            for rule in [(a, b) for a in lots for b in lots]:
                broken = [brute.as_lot(lot) for lot in closed if not brute.keeps(lot, rule)]
                self.assertIs(follows(book, rule), not broken)
                self.assertEqual(breaking(book, rule), broken[0] if broken else None)

    def test_edges(self):
        self.assertIs(follows((0, ()), ((), ())), True)
        self.assertIs(breaking((0, ()), ((), ())), None)
        self.assertIs(follows((10, ()), (EVERYTHING, EVERYTHING)), True)
        self.assertIs(follows((10, ()), ((), (0,))), False)
        self.assertEqual(breaking((10, ()), ((), (0,))), ())
        self.assertEqual(breaking(CHAIN, ((1,), (0,))), tuple(range(1, 10)))
        self.assertIs(follows(CHAIN, ((3,), (9,))), True)


class StepsTest(unittest.TestCase):
    def test_steps_hold_and_are_short(self):
        for book in many_books():
            for lot in brute.tuples_of(book[0]):
                for thing in range(book[0]):
                    self.check(book, lot, thing)

    def test_great_books(self):
        for book in brute.random_books(15, 8, sizes=(10,), most_rules=60, most_things=4) + [CHAIN]:
            for lot in brute.tuples_of(10)[::41]:
                for thing in range(10):
                    self.check(book, lot, thing)

    def check(self, book, lot, thing):
        found = steps(book, lot, thing)
        if thing not in closure(book, lot):
            self.assertIs(found, None)
            return
        self.assertIs(type(found), tuple)
        self.assertTrue(brute.are_steps(book, lot, thing, found), (book, lot, thing, found))
        self.assertIs(steps_hold(book, lot, thing, found), True)
        for place in found:
            fewer = tuple(other for other in found if other != place)
            self.assertFalse(brute.are_steps(book, lot, thing, fewer), (book, lot, thing, found))
        if thing in lot:
            self.assertEqual(found, ())

    def test_a_rule_that_only_serves_a_needless_one_is_left_out(self):
        # The first two rules lead to nothing that the last one asks for.
        book = (5, (((0,), (1,)), ((1,), (2,)), ((0,), (3,)), ((0, 3), (4,))))
        self.assertEqual(steps(book, (0,), 4), (2, 3))

    def test_equal_rules_and_rules_with_nothing_ahead(self):
        self.assertIn(steps((2, (((0,), (1,)),) * 2), (0,), 1), ((0,), (1,)))
        self.assertEqual(steps((2, (((), ()), ((), (0,)), ((0,), (1,)))), (), 1), (1, 2))
        self.assertEqual(steps(CHAIN, (0,), 9), tuple(range(9)))
        self.assertEqual(steps((10, tuple(reversed(CHAIN[1]))), (0,), 9), tuple(range(8, -1, -1)))
        self.assertIs(steps((10, ()), (0,), 9), None)
        self.assertEqual(steps((10, ()), (0,), 0), ())


class StepsHoldTest(unittest.TestCase):
    BOOK = (4, (((0,), (1,)), ((1, 2), (3,)), ((3,), (0,)), ((0,), (1,)), ((), ())))

    def test_by_their_words(self):
        places = [()] + [(a,) for a in range(5)] + [(a, b) for a in range(5) for b in range(5)]
        places += [(a, b, c) for a in range(5) for b in range(5) for c in range(5)]
        for lot in brute.tuples_of(4):
            for thing in range(4):
                for value in places:
                    expected = brute.are_steps(self.BOOK, lot, thing, value)
                    self.assertIs(steps_hold(self.BOOK, lot, thing, value), expected, (lot, thing, value))

    def test_not_short_ones_hold(self):
        self.assertIs(steps_hold(self.BOOK, (0, 2), 3, (0, 1, 2, 3, 4)), True)
        self.assertIs(steps_hold(self.BOOK, (0,), 0, ()), True)
        self.assertIs(steps_hold(self.BOOK, (0,), 0, (0,)), True)
        self.assertIs(steps_hold(self.BOOK, (0,), 0, (1,)), False)
        self.assertIs(steps_hold(self.BOOK, (0,), 1, ()), False)

    def test_wrong_values(self):
        for value in [[], [0, 1], None, True, "01", "", {}, {0: 1}, (0, 0), (0, 1, 0), (5,), (0, 1, 5), (-1,), (-5, 1),
                      (False, 1), (0, True), (0, None), (0, "1"), ((0,), 1), ([0], 1), ({}, 1), (0, 10 ** 399),
                      (0, -(10 ** 399)), ((0, 1),), ("0", "1")]:
            self.assertIs(steps_hold(self.BOOK, (0, 2), 3, value), False, value)
            self.assertIs(steps_hold((2, ()), (0,), 1, value), False, value)

    def test_odd_values(self):
        for value in ODD:
            self.assertIs(steps_hold(self.BOOK, (0, 2), 3, value), False, value)
            self.assertIs(steps_hold((4, ()), (0, 1, 2, 3), 3, value), value == () and type(value) is tuple)

    def test_bools_are_no_places_where_nothing_is_to_be_done(self):
        self.assertIs(steps_hold(self.BOOK, (0, 3), 3, (False,)), False)
        self.assertIs(steps_hold(self.BOOK, (0, 3), 3, (0,)), True)


class AlikeTest(unittest.TestCase):
    def test_by_all_lots(self):
        books = brute.small_books()[::29] + brute.families(3)[::2] + brute.random_books(16, 25, sizes=(3,))
        for book in books:
            for other in books:
                if book[0] == other[0]:
                    self.check(book, other)

    def check(self, book, other):
        mine, theirs = brute.closed_sets(book), brute.closed_sets(other)
        apart = [brute.as_lot(lot) for lot in brute.sets_of(book[0]) if (lot in mine) != (lot in theirs)]
        self.assertIs(alike(book, other), not apart)
        self.assertEqual(parting(book, other), apart[0] if apart else None)

    def test_edges(self):
        self.assertIs(alike((0, ()), (0, (((), ()),) * 60)), True)
        self.assertIs(parting((0, ()), (0, ())), None)
        self.assertEqual(parting((10, ()), (10, ((EVERYTHING[:9], (9,)),))), EVERYTHING[:9])
        self.assertEqual(parting((10, (((), EVERYTHING),)), (10, ())), ())
        self.assertIs(alike(CHAIN, (10, tuple(reversed(CHAIN[1])) * 2)), True)

    def test_unlike_sizes(self):
        for book, other in [((0, ()), (1, ())), ((3, ()), (2, ())), (CHAIN, (9, ())), ((1, ()), (1 + 1, ()))]:
            for function in (alike, parting):
                with self.assertRaises(Unfit):
                    function(book, other)
                with self.assertRaises(Unfit):
                    function(other, book)


if __name__ == "__main__":
    unittest.main()
