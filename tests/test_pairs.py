"""[G1] to [G4]: two books, and parts of a book."""

import unittest
from itertools import combinations

from meetlots.books import closed_lots, is_closed
from meetlots.errors import TooMany, Unfit
from meetlots.leastbooks import stem
from meetlots.lots import book_error
from meetlots.pairs import above, beside, both, either, part
from tests import brute
from tests.clock import assert_quick

EVERYTHING = tuple(range(10))
FOURS = tuple(combinations(range(10), 4))


def many_books():
    return brute.small_books()[::5] + brute.families(3)[::2] + brute.random_books(71, 60)


def pairs_of_books():
    books = brute.small_books()[::11] + brute.random_books(72, 40, sizes=(3, 4))
    return [(book, other) for book in books for other in books if book[0] == other[0]]


def all_from(lots):
    """A book in which each of some lots has all things."""
    return (10, tuple((lot, EVERYTHING) for lot in lots))


def sixty_by_ten_and_six(more=()):
    """Two books: a lot has all things in both just if it has one of ten pairs and one of six others, or one more lot.

    A pair and another one have four things, so none of the sixty is in another; one more lot has three of five.
    """
    tens = tuple(combinations(range(5), 2))
    sixes = tuple(combinations(range(5, 9), 2))
    return all_from(tens + more), all_from(sixes + more)


def renumbered(lot, things):
    return frozenset(things.index(thing) for thing in lot)


class BothTest(unittest.TestCase):
    def test_by_its_words(self):
        for book, other in pairs_of_books():
            family = [lot for lot in brute.closed_sets(book) if lot in brute.closed_sets(other)]
            found = both(book, other)
            self.assertEqual(found, brute.stem_among(book[0], family))
            for lot in brute.tuples_of(book[0]):
                self.assertIs(is_closed(found, lot), is_closed(book, lot) and is_closed(other, lot))

    def test_edges(self):
        self.assertEqual(both((0, ()), (0, (((), ()),))), (0, ()))
        self.assertEqual(both((10, ()), (10, ())), (10, ()))
        self.assertEqual(both((10, ()), (10, (((), EVERYTHING),) * 60)), (10, (((), EVERYTHING),)))
        self.assertEqual(both((2, (((0,), (1,)),) * 60), (2, (((0,), (1,)),) * 60)), (2, (((0,), (1,)),)))

    def test_sixty_rules_and_one_more(self):
        found = both(all_from(FOURS[:30]), all_from(FOURS[30:60]))
        self.assertEqual([ahead for ahead, _ in found[1]], list(FOURS[:60]))
        self.assertIs(book_error(found), None)
        for many in (61, 90):
            with self.assertRaises(TooMany) as caught:
                both(all_from(FOURS[:30]), all_from(FOURS[30:many]))
            self.assertEqual(caught.exception.limit, 60)


class EitherTest(unittest.TestCase):
    def test_by_its_words(self):
        for book, other in pairs_of_books():
            family = {mine & theirs for mine in brute.closed_sets(book) for theirs in brute.closed_sets(other)}
            self.assertEqual(either(book, other), brute.stem_among(book[0], family))

    def test_it_has_the_fewest_closed_lots(self):
        books = brute.families(2)
        for book in books:
            for other in books:
                asked = set(closed_lots(book)) | set(closed_lots(other))
                over = [set(closed_lots(third)) for third in books if asked <= set(closed_lots(third))]
                found = set(closed_lots(either(book, other)))
                self.assertIn(found, over)
                self.assertTrue(all(found <= third for third in over))

    def test_edges(self):
        self.assertEqual(either((0, ()), (0, (((), ()),))), (0, ()))
        self.assertEqual(either((10, ()), (10, (((), EVERYTHING),))), (10, ()))
        self.assertEqual(either((10, (((), EVERYTHING),)), (10, (((), EVERYTHING),))), (10, (((), EVERYTHING),)))
        self.assertEqual(either((2, (((), (0,)),)), (2, (((), (1,)),))), (2, ()))

    def test_sixty_rules_and_one_more(self):
        found = either(*sixty_by_ten_and_six())
        self.assertEqual(len(found[1]), 60)
        self.assertTrue(all(len(ahead) == 4 for ahead, _ in found[1]))
        with self.assertRaises(TooMany) as caught:
            either(*sixty_by_ten_and_six(((0, 1, 2),)))
        self.assertEqual(caught.exception.limit, 60)


class UnfitTest(unittest.TestCase):
    def test_unlike_sizes(self):
        for book, other in [((0, ()), (1, ())), ((10, ()), (9, ())), ((2, (((0,), (1,)),)), (3, (((0,), (1,)),)))]:
            for function in (both, either):
                with self.assertRaises(Unfit):
                    function(book, other)
                with self.assertRaises(Unfit):
                    function(other, book)

    def test_unlike_sizes_are_told_ahead_of_too_many_rules(self):
        smaller = (9, tuple((lot, EVERYTHING[:9]) for lot in tuple(combinations(range(9), 4))[60:120]))
        with self.assertRaises(Unfit):
            both(all_from(FOURS[:60]), smaller)


class BesideTest(unittest.TestCase):
    def test_by_its_words(self):
        books = brute.small_books()[::13] + brute.random_books(73, 25, sizes=(2, 3))
        for book in books:
            for other in books:
                self.check(book, other)

    def check(self, book, other):
        size = book[0]
        found = beside(book, other)
        raised = tuple(
            (tuple(x + size for x in ahead), tuple(x + size for x in behind)) for ahead, behind in other[1]
        )
        self.assertEqual(found, (size + other[0], book[1] + raised))
        expected = brute.lots_in_order(
            mine | {x + size for x in theirs}
            for mine in brute.closed_sets(book) for theirs in brute.closed_sets(other)
        )
        self.assertEqual(closed_lots(found), expected)

    def test_edges(self):
        self.assertEqual(beside((0, ()), (0, ())), (0, ()))
        self.assertEqual(beside((0, (((), ()),)), (10, (((), (9,)),))), (10, (((), ()), ((), (9,)))))
        self.assertEqual(beside((10, ()), (0, ())), (10, ()))
        self.assertEqual(beside((9, ()), (1, (((0,), ()),))), (10, (((9,), ()),)))
        rule = ((0,), (1,))
        found = beside((5, (rule,) * 30), (5, (rule,) * 30))
        self.assertEqual(found, (10, (rule,) * 30 + (((5,), (6,)),) * 30))
        self.assertIs(book_error(found), None)

    def test_too_many(self):
        rule = ((0,), (1,))
        for book, other, limit in [
            ((10, ()), (1, ()), 10), ((5, ()), (6, ()), 10), ((10, ()), (10, ()), 10),
            ((5, (rule,) * 30), (5, (rule,) * 31), 60), ((2, (rule,) * 60), (2, (rule,)), 60),
            ((0, (((), ()),)), (10, (rule,) * 60), 60), ((10, (rule,) * 60), (1, (((0,), ()),)), 10),
        ]:
            with self.assertRaises(TooMany) as caught:
                beside(book, other)
            self.assertEqual(caught.exception.limit, limit)


class PartTest(unittest.TestCase):
    def test_by_its_words(self):
        for book in many_books():
            for lot in brute.tuples_of(book[0]):
                family = {renumbered(closed & set(lot), lot) for closed in brute.closed_sets(book)}
                self.assertEqual(part(book, lot), brute.stem_among(len(lot), family))

    def test_edges(self):
        self.assertEqual(part((0, (((), ()),)), ()), (0, ()))
        self.assertEqual(part((10, (((), EVERYTHING),)), ()), (0, ()))
        self.assertEqual(part((10, (((), EVERYTHING),) * 60), (3, 9)), (2, (((), (0, 1)),)))
        self.assertEqual(part((10, ()), EVERYTHING), (10, ()))
        self.assertEqual(part((3, (((0,), (1,)), ((1,), (2,)))), (0, 2)), (2, (((0,), (1,)),)))
        for book in many_books():
            self.assertEqual(part(book, tuple(range(book[0]))), stem(book))

    def test_sixty_rules_and_one_more(self):
        tens, sixes = tuple(combinations(range(5), 2)), tuple(combinations(range(5, 9), 2))
        rules = tuple((lot, (9,)) for lot in tens) + tuple((lot + (9,), EVERYTHING) for lot in sixes)
        found = part((10, rules), EVERYTHING[:9])
        self.assertEqual((found[0], len(found[1])), (9, 60))
        with self.assertRaises(TooMany) as caught:
            part((10, rules + (((0, 1, 2), EVERYTHING),)), EVERYTHING[:9])
        self.assertEqual(caught.exception.limit, 60)


class AboveTest(unittest.TestCase):
    def test_by_its_words(self):
        for book in many_books():
            for lot in brute.tuples_of(book[0]):
                rest = tuple(x for x in range(book[0]) if x not in lot)
                family = {
                    renumbered(closed - set(lot), rest) for closed in brute.closed_sets(book) if set(lot) <= closed
                }
                self.assertEqual(above(book, lot), brute.stem_among(len(rest), family))

    def test_edges(self):
        self.assertEqual(above((0, (((), ()),)), ()), (0, ()))
        self.assertEqual(above((10, ()), EVERYTHING), (0, ()))
        self.assertEqual(above((10, (((), EVERYTHING),) * 60), (3,)), (9, (((), tuple(range(9))),)))
        self.assertEqual(above((3, (((0,), (2,)),)), (0,)), (2, (((), (1,)),)))
        for book in many_books():
            self.assertEqual(above(book, ()), stem(book))

    def test_sixty_rules(self):
        book = (10, tuple((lot + (9,), EVERYTHING) for lot in tuple(combinations(range(9), 4))[:60]))
        self.assertEqual(above(book, (9,)), (9, tuple(
            (lot, tuple(x for x in range(9) if x not in lot)) for lot in tuple(combinations(range(9), 4))[:60]
        )))


class TimeTest(unittest.TestCase):
    def test_calls_at_the_bounds(self):
        books = brute.random_books(74, 2, sizes=(10,), most_rules=60, most_things=4)
        books += [(10, ()), all_from(FOURS[:60]), all_from(FOURS[60:120]), all_from(FOURS[150:])]
        for book in books:
            for other in books:
                assert_quick(self, both, book, other)
                assert_quick(self, either, book, other)
            for lot in ((), (0,), EVERYTHING[:5], EVERYTHING):
                assert_quick(self, part, book, lot)
                assert_quick(self, above, book, lot)


if __name__ == "__main__":
    unittest.main()
