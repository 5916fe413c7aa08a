"""[G9] and [G10]: single books."""

import unittest
from itertools import product

from meetlots.books import alike, closed_lots, closure
from meetlots.errors import BadReach
from meetlots.leastbooks import stem
from meetlots.lots import book_error
from meetlots.singles import apart, is_single, loosened, of_reach, reach, reach_error
from tests import brute
from tests.clock import assert_quick
from tests.values import ODD

EVERYTHING = tuple(range(10))


def many_books():
    return brute.small_books()[::3] + brute.families(3) + brute.random_books(101, 80)


class ApartTest(unittest.TestCase):
    def test_by_its_words(self):
        for book in many_books():
            closed = brute.closed_sets(book)
            lots = closed_lots(book)
            pairs = [
                (one, other) for k, one in enumerate(lots) for other in lots[k + 1:]
                if frozenset(one) | frozenset(other) not in closed
            ]
            self.assertEqual(apart(book), pairs[0] if pairs else None)
            self.assertIs(is_single(book), not pairs)

    def test_single_just_if_rules_of_one_thing_tell_it(self):
        for book in many_books():
            short = tuple((lot, closure(book, lot)) for lot in brute.tuples_of(book[0]) if len(lot) < 2)
            self.assertIs(is_single(book), alike(book, (book[0], short)))
            self.assertIs(is_single(book), alike(book, loosened(book)))
            self.assertIs(is_single((book[0], short)), True)

    def test_edges(self):
        for book in [(0, ()), (0, (((), ()),) * 60), (1, ()), (10, ()), (10, (((), EVERYTHING),) * 60)]:
            self.assertIs(is_single(book), True)
            self.assertIs(apart(book), None)
        self.assertEqual(apart((2, (((), ()), ((0,), ())))), None)
        self.assertEqual(apart((3, (((0, 1), (2,)),))), ((0,), (1,)))
        self.assertEqual(apart((10, (((8, 9), (0,)),))), ((8,), (9,)))
        self.assertEqual(apart((10, (((0, 1, 9), (2,)),))), ((0,), (1, 9)))
        self.assertEqual(apart((10, ((EVERYTHING[:9], EVERYTHING),))), ((0,), EVERYTHING[1:9]))


class ReachTest(unittest.TestCase):
    def test_by_its_words(self):
        for book in many_books():
            root, rows = reach(book)
            self.assertEqual(root, brute.as_lot(brute.closure(book, ())))
            self.assertEqual(rows, tuple(brute.as_lot(brute.closure(book, (x,))) for x in range(book[0])))
            self.assertIs(reach_error(book[0], (root, rows)), None)

    def test_edges(self):
        self.assertEqual(reach((0, ())), ((), ()))
        self.assertEqual(reach((10, ())), ((), tuple((x,) for x in range(10))))
        self.assertEqual(reach((10, (((), EVERYTHING),) * 60)), (EVERYTHING, (EVERYTHING,) * 10))
        self.assertEqual(reach((2, (((), (1,)),))), ((1,), ((0, 1), (1,))))


class ReachErrorTest(unittest.TestCase):
    def error(self, size, root, rows):
        things = range(size)
        told = [("own", x) for x in things if x not in rows[x]]
        told += [("root", x) for x in things if not set(root) <= set(rows[x]) or (x in root and rows[x] != root)]
        told += [("row", x, y) for x in things for y in things if y in rows[x] and not set(rows[y]) <= set(rows[x])]
        return told[0] if told else None

    def test_all_pairs_of_small_sizes(self):
        for size, books in [(0, brute.families(0)), (1, brute.families(1)), (2, brute.families(2)),
                            (3, brute.families(3))]:
            told = {reach(book) for book in books}
            lots = brute.tuples_of(size)
            for root in lots:
                for rows in product(lots, repeat=size):
                    found = reach_error(size, (root, rows))
                    self.assertEqual(found, self.error(size, root, rows))
                    self.assertIs(found is None, (root, rows) in told)

    def test_wrong_values(self):
        good = ((), ((0,), (1,)))
        self.assertIs(reach_error(2, good), None)
        for value in ODD + [
            list(good), ([], ((0,), (1,))), ((), [(0,), (1,)]), ((), ([0], (1,))), ((), ((0,), [1])), (), ((),), good + ((),),
            ((), ()), ((), ((0,),)), ((), ((0,), (1,), (2,))), ((2,), ((0,), (1,))), ((), ((0,), (2,))),
            ((True,), ((0,), (1,))), ((), ((False,), (1,))), ((), ((0,), (True,))), ((), ((1, 0), (1,))),
            (None, ((0,), (1,))), ((), None), ((), ((0,), None)), ((), {0: (0,), 1: (1,)}), {0: (), 1: ((0,), (1,))},
            ((-1,), ((0,), (1,))), ((), "01"), "ab", (0, ((0,), (1,))), ((), (0, 1)), ((10 ** 399,), ((0,), (1,))),
        ]:
            self.assertEqual(reach_error(2, value), "form", value)
            with self.assertRaises(BadReach) as caught:
                of_reach(2, value)
            self.assertEqual(caught.exception.error, "form")

    def test_edges(self):
        self.assertIs(reach_error(0, ((), ())), None)
        self.assertEqual(reach_error(0, ((), ((),))), "form")
        self.assertIs(reach_error(10, (EVERYTHING, (EVERYTHING,) * 10)), None)
        self.assertEqual(reach_error(10, ((), ((),) * 10)), ("own", 0))
        self.assertEqual(reach_error(10, (EVERYTHING, (EVERYTHING,) * 9 + ((9,),))), ("root", 9))
        self.assertEqual(reach_error(3, ((), ((0, 2), (1,), (1, 2)))), ("row", 0, 2))
        # What is told first is told, also where the others apply.
        self.assertEqual(reach_error(3, ((0,), ((1,), (1,), (2,)))), ("own", 0))
        self.assertEqual(reach_error(3, ((0,), ((0, 1), (1, 2), (2,)))), ("root", 0))
        self.assertEqual(reach_error(3, ((0,), ((0,), (1, 2), (0, 2)))), ("root", 1))


class OfReachTest(unittest.TestCase):
    def joins(self, size, root, rows):
        """The joins of a root and of the rows of some things."""
        found = set()
        for things in brute.tuples_of(size):
            found.add(frozenset(root).union(*[rows[thing] for thing in things]))
        return found

    def test_by_its_words(self):
        for book in many_books():
            value = reach(book)
            found = of_reach(book[0], value)
            self.assertEqual(found, brute.stem_among(book[0], self.joins(book[0], *value)))
            self.assertEqual(reach(found), value)
            self.assertIs(is_single(found), True)
            self.assertEqual(loosened(book), found)

    def test_loosened_by_its_words(self):
        for book in many_books():
            root, rows = reach(book)
            family = [
                lot for lot in brute.sets_of(book[0])
                if set(root) <= lot and all(set(rows[thing]) <= lot for thing in lot)
            ]
            self.assertEqual(loosened(book), brute.stem_among(book[0], family))

    def test_loosened_has_the_fewest_closed_lots(self):
        single = [set(closed_lots(book)) for book in brute.families(3) if is_single(book)]
        for book in brute.families(3):
            over = [family for family in single if set(closed_lots(book)) <= family]
            found = set(closed_lots(loosened(book)))
            self.assertIn(found, over)
            self.assertTrue(all(found <= family for family in over))

    def test_from_one_to_the_other(self):
        for book in many_books():
            if is_single(book):
                self.assertEqual(of_reach(book[0], reach(book)), stem(book))

    def test_wrong_reaches(self):
        lots = brute.tuples_of(2)
        for root in lots:
            for rows in product(lots, repeat=2):
                error = reach_error(2, (root, rows))
                if error is not None:
                    with self.assertRaises(BadReach) as caught:
                        of_reach(2, (root, rows))
                    self.assertEqual(caught.exception.error, error)

    def test_edges(self):
        self.assertEqual(of_reach(0, ((), ())), (0, ()))
        self.assertEqual(loosened((0, (((), ()),) * 60)), (0, ()))
        self.assertEqual(loosened((10, ())), (10, ()))
        self.assertEqual(of_reach(10, (EVERYTHING, (EVERYTHING,) * 10)), (10, (((), EVERYTHING),)))
        self.assertEqual(loosened((10, (((0, 1), EVERYTHING),) * 60)), (10, ()))
        # A single book needs a rule for each thing at most, and one for none.
        most = of_reach(10, ((), (EVERYTHING,) * 10))
        self.assertEqual(len(most[1]), 10)
        self.assertIs(book_error(most), None)


class TimeTest(unittest.TestCase):
    def test_calls_at_the_bounds(self):
        books = brute.random_books(102, 3, sizes=(10,), most_rules=60, most_things=4) + [(10, ())]
        for book in books:
            for function in (is_single, apart, reach, loosened):
                assert_quick(self, function, book, seconds=3)
            assert_quick(self, of_reach, 10, reach(book), seconds=3)


if __name__ == "__main__":
    unittest.main()
