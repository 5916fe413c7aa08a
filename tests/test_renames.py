"""[G8]: renamings."""

import unittest
from itertools import combinations, permutations

from meetlots.books import alike
from meetlots.errors import TooMany, Unfit
from meetlots.leastbooks import stem
from meetlots.renames import normal, renamed, renaming, sames
from meetlots.texts import book_text
from tests import brute
from tests.clock import assert_quick

EVERYTHING = tuple(range(10))
SEVEN = tuple(range(7))


def many_books():
    return brute.small_books()[::9] + brute.families(3)[::2] + brute.random_books(91, 25, sizes=(2, 3, 4))


def pairs_of_books():
    books = brute.small_books()[::19] + brute.families(3)[::5] + brute.random_books(92, 15, sizes=(2, 3))
    return [(book, other) for book in books for other in books if book[0] == other[0]]


def leading(book, other):
    """All renamings by which the closed lots of a book become those of another one, in order."""
    closed, goal = brute.closed_sets(book), set(brute.closed_sets(other))
    return [
        naming for naming in permutations(range(book[0]))
        if {frozenset(naming[thing] for thing in lot) for lot in closed} == goal
    ]


def all_of_seven(lots):
    return (7, tuple((lot, SEVEN) for lot in lots))


class RenamedTest(unittest.TestCase):
    def test_by_its_words(self):
        for book in many_books():
            for naming in permutations(range(book[0])):
                expected = tuple(
                    tuple(brute.as_lot(naming[thing] for thing in lot) for lot in rule) for rule in book[1]
                )
                self.assertEqual(renamed(book, naming), (book[0], expected))

    def test_edges(self):
        self.assertEqual(renamed((0, ()), ()), (0, ()))
        self.assertEqual(renamed((0, (((), ()),) * 60), ()), (0, (((), ()),) * 60))
        rule = ((0, 1, 9), (2,))
        self.assertEqual(renamed((10, (rule,) * 60), EVERYTHING[::-1]), (10, (((0, 8, 9), (7,)),) * 60))
        self.assertEqual(renamed((3, (((2,), ()), ((), (0,)))), (1, 2, 0)), (3, (((0,), ()), ((), (1,)))))


class RenamingTest(unittest.TestCase):
    def test_by_their_words(self):
        for book, other in pairs_of_books():
            expected = leading(book, other)
            found = renaming(book, other)
            self.assertEqual(found, expected[0] if expected else None)
            if found is not None:
                self.assertIs(alike(renamed(book, found), other), True)

    def test_sames_by_its_words(self):
        for book in many_books():
            self.assertEqual(sames(book), tuple(leading(book, book)))

    def test_edges(self):
        self.assertEqual(renaming((0, ()), (0, (((), ()),))), ())
        self.assertEqual(sames((0, ())), ((),))
        self.assertEqual(sames((1, ())), ((0,),))
        self.assertIs(renaming((7, ()), (7, (((), (0,)),))), None)
        self.assertIs(renaming((7, (((), (0,)),)), (7, ())), None)
        self.assertIs(renaming((2, (((), (0,)),)), (2, (((0,), (1,)),))), None)
        self.assertEqual(renaming((7, (((0,), (1,)),)), (7, (((6,), (5,)),) * 60)), (6, 5, 0, 1, 2, 3, 4))
        self.assertEqual(renaming((7, (((), SEVEN),)), (7, (((), SEVEN),) * 60)), SEVEN)

    def test_seven_things(self):
        self.assertEqual(sames((7, ())), tuple(permutations(range(7))))
        self.assertEqual(sames(all_of_seven(combinations(SEVEN, 3))), tuple(permutations(range(7))))
        chain = (7, tuple(((k,), (k + 1,)) for k in range(6)))
        self.assertEqual(sames(chain), (SEVEN,))
        back = (7, tuple(((k + 1,), (k,)) for k in range(6)))
        self.assertEqual(renaming(chain, back), SEVEN[::-1])
        plane = [(k, (k + 1) % 7, (k + 3) % 7) for k in range(7)]
        self.assertEqual(len(sames(all_of_seven(tuple(sorted(line)) for line in plane))), 168)


class NormalTest(unittest.TestCase):
    def test_by_its_words(self):
        for book in many_books():
            texts = [book_text(stem(renamed(book, naming))) for naming in permutations(range(book[0]))]
            self.assertEqual(normal(book), min(texts))

    def test_the_same_just_if_there_is_a_renaming(self):
        for book, other in pairs_of_books():
            self.assertIs(normal(book) == normal(other), renaming(book, other) is not None)

    def test_edges(self):
        self.assertEqual(normal((0, ())), "0")
        self.assertEqual(normal((0, (((), ()),) * 60)), "0")
        self.assertEqual(normal((7, ())), "7")
        self.assertEqual(normal((7, (((), SEVEN),))), "7\nnone > 0 1 2 3 4 5 6")
        self.assertEqual(normal((7, (((6,), (5,)),))), "7\n0 > 1")
        self.assertEqual(normal((7, (((5, 6), (4,)), ((), (6,))))), "7\nnone > 0\n0 1 > 2")
        self.assertEqual(normal((2, (((1,), (0,)), ((0,), (1,))))), "2\n0 > 1\n1 > 0")

    def test_seven_things(self):
        threes = tuple(combinations(SEVEN, 3))
        lines = [" ".join(map(str, lot)) + " > " + " ".join(str(x) for x in SEVEN if x not in lot) for lot in threes]
        self.assertEqual(normal(all_of_seven(threes)), "\n".join(["7"] + lines))
        for book in brute.random_books(93, 3, sizes=(7,), most_rules=60, most_things=4):
            naming = (3, 6, 0, 2, 5, 1, 4)
            self.assertEqual(normal(renamed(book, naming)), normal(book))
            self.assertIs(alike(renamed(book, renaming(book, renamed(book, naming))), renamed(book, naming)), True)


class ErrorsTest(unittest.TestCase):
    def test_unlike_sizes(self):
        for book, other in [((0, ()), (1, ())), ((7, ()), (6, ())), ((8, ()), (7, ())), ((10, ()), (9, ())),
                            ((7, ()), (10, ()))]:
            with self.assertRaises(Unfit):
                renaming(book, other)
            with self.assertRaises(Unfit):
                renaming(other, book)

    def test_too_many_things(self):
        for size in (8, 9, 10):
            for function, arguments in [(renaming, ((size, ()),) * 2), (sames, ((size, ()),)), (normal, ((size, ()),))]:
                with self.assertRaises(TooMany) as caught:
                    function(*arguments)
                self.assertEqual(caught.exception.limit, 7)


class TimeTest(unittest.TestCase):
    def test_seven_things(self):
        books = brute.random_books(94, 3, sizes=(7,), most_rules=60, most_things=4)
        books += [(7, ()), all_of_seven(combinations(SEVEN, 3)), all_of_seven(combinations(SEVEN, 4))]
        for book in books:
            assert_quick(self, sames, book, seconds=3)
            assert_quick(self, normal, book, seconds=3)
            for other in books:
                assert_quick(self, renaming, book, other, seconds=3)


if __name__ == "__main__":
    unittest.main()
