"""[J1] to [J4] and [A2] (g): takings, sums of stands, and the play for a prize."""

import random
import unittest
from itertools import combinations

from meetlots.books import closed_lots
from meetlots.errors import NotClosed, NotLearning, TooMany
from meetlots.hulls import on_line
from meetlots.learning import clash, ends
from meetlots.takings import (
    heap, heaps, prize_play, prize_turns, right_ends, right_in_sum, right_takings, sum_heap, takings,
)
from tests import brute
from tests.clock import assert_quick

EVERYTHING = tuple(range(10))
CHAIN = (10, tuple(((k,), (k + 1,)) for k in range(9)))
# The whole is closed, and nothing less but the empty lot: no single thing can be taken.
LUMP = (3, (((0,), (1, 2)), ((1,), (0, 2)), ((2,), (0, 1))))


def many_books():
    return brute.families(2) + brute.families(3)[::5] + brute.random_books(161, 25)


def leaves(book, lot, most):
    """Each taking of a closed lot with what it leaves, by [J1]'s own words."""
    closed = brute.closed_sets(book)
    return [
        (part, frozenset(lot) - set(part)) for part in brute.tuples_of(book[0])
        if set(part) <= set(lot) and 1 <= len(part) <= most and frozenset(lot) - set(part) in closed
    ]


def heap_by_its_words(book, lot, most, known):
    """The heap of a closed lot, by [J2]'s own words."""
    lot = frozenset(lot)
    if lot not in known:
        left = [heap_by_its_words(book, less, most, known) for _, less in leaves(book, lot, most)]
        known[lot] = min(set(range(len(left) + 1)) - set(left))
    return known[lot]


def wins(stands, known):
    """Whether who is to move with some stands can win, by going through all plays."""
    key = tuple((place, frozenset(lot)) for place, (_, lot, _) in enumerate(stands))
    if key not in known:
        known[key] = any(
            not wins(stands[:place] + ((book, less, most),) + stands[place + 1:], known)
            for place, (book, lot, most) in enumerate(stands) for _, less in leaves(book, lot, most)
        )
    return known[key]


class TakingsTest(unittest.TestCase):
    def test_by_their_words(self):
        for book in many_books():
            for most in (1, 2, 3, 10):
                known = {}
                lots = closed_lots(book)
                told = [heap_by_its_words(book, lot, most, known) for lot in lots]
                self.assertEqual(heaps(book, most), tuple(told), (book, most))
                for lot, expected in zip(lots, told):
                    taken = leaves(book, lot, most)
                    self.assertEqual(takings(book, lot, most), tuple(part for part, _ in taken))
                    right = tuple(part for part, less in taken if known[less] == 0)
                    self.assertEqual(right_takings(book, lot, most), right)
                    self.assertEqual(heap(book, lot, most), expected)
                    self.assertIs(right == (), expected == 0)

    def test_edges(self):
        self.assertEqual(takings((0, ()), (), 1), ())
        self.assertEqual(heaps((0, ()), 10), (0,))
        self.assertEqual(right_takings((0, ()), (), 1), ())
        self.assertEqual(takings((10, ()), EVERYTHING, 10)[-1], EVERYTHING)
        self.assertEqual(len(takings((10, ()), EVERYTHING, 10)), 1023)
        self.assertEqual(takings((10, ()), EVERYTHING, 1), tuple((k,) for k in range(10)))
        self.assertEqual([heap((10, ()), EVERYTHING, most) for most in (1, 2, 3, 9, 10)], [0, 1, 2, 0, 10])
        # What the empty lot brings is never taken.
        rooted = (3, (((), (1,)),))
        self.assertEqual(takings(rooted, (0, 1, 2), 10), ((0,), (2,), (0, 2)))
        self.assertEqual(takings(rooted, (1,), 10), ())
        self.assertEqual(heap(rooted, (1,), 10), 0)

    def test_a_lot_without_a_taking(self):
        for most in (1, 2):
            self.assertEqual(takings(LUMP, (0, 1, 2), most), ())
            self.assertEqual(heap(LUMP, (0, 1, 2), most), 0)
            self.assertEqual(right_takings(LUMP, (0, 1, 2), most), ())
        self.assertEqual(takings(LUMP, (0, 1, 2), 3), ((0, 1, 2),))
        self.assertEqual(heaps(LUMP, 3), (0, 1))

    def test_not_closed(self):
        for function in (takings, heap, right_takings):
            for book, lot in [(LUMP, (0,)), ((1, (((), (0,)),)), ()), (CHAIN, (0,))]:
                with self.assertRaises(NotClosed) as caught:
                    function(book, lot, 1)
                self.assertEqual(caught.exception.lot, lot)

    def test_longest_rows(self):
        """[A2] (g): with most from the size on the heap is told by a longest row of closed lots."""
        for book in many_books() + brute.random_learning_books(162, 15):
            lots = [frozenset(lot) for lot in closed_lots(book)]
            longest = {}
            for lot in lots:
                longest[lot] = 1 + max((longest[less] for less in lots if less < lot), default=0)
            for most in {max(1, book[0]), 10}:
                self.assertEqual(heaps(book, most), tuple(longest[lot] - 1 for lot in lots))


class SumTest(unittest.TestCase):
    def random_stands(self, chance, books, many):
        stands = []
        for _ in range(many):
            book = chance.choice(books)
            stands.append((book, chance.choice(closed_lots(book)), chance.randint(1, 4)))
        return tuple(stands)

    def test_by_all_plays(self):
        """[A2] (g): who is to move wins just if the heap of the sum is not 0, by any right move."""
        chance = random.Random(163)
        books = brute.families(2) + brute.random_books(164, 20, sizes=(1, 2, 3))
        for _ in range(120):
            stands = self.random_stands(chance, books, chance.randint(0, 3))
            known = {}
            self.assertIs(sum_heap(stands) != 0, wins(stands, known), stands)
            right = tuple(
                (place, part) for place, (book, lot, most) in enumerate(stands)
                for part, less in leaves(book, lot, most)
                if not wins(stands[:place] + ((book, less, most),) + stands[place + 1:], known)
            )
            self.assertEqual(right_in_sum(stands), right, stands)

    def test_powers_of_two(self):
        chance = random.Random(165)
        books = brute.random_books(166, 20) + [(5, ()), (6, ())]
        for _ in range(60):
            stands = self.random_stands(chance, books, chance.randint(0, 8))
            own = [heap(*stand) for stand in stands]
            odd = [1 << k for k in range(5) if sum(number >> k & 1 for number in own) % 2]
            self.assertEqual(sum_heap(stands), sum(odd))
            self.assertIs(right_in_sum(stands) == (), sum(odd) == 0)

    def test_edges(self):
        self.assertEqual(sum_heap(()), 0)
        self.assertEqual(right_in_sum(()), ())
        stand = ((10, ()), EVERYTHING, 10)
        self.assertEqual(sum_heap((stand,)), 10)
        self.assertEqual(sum_heap((stand,) * 8), 0)
        self.assertEqual(right_in_sum((stand,) * 8), ())
        self.assertEqual(right_in_sum((stand,)), ((0, EVERYTHING),))
        self.assertEqual(right_in_sum((stand, ((0, ()), (), 1), (CHAIN, (8, 9), 2))),
                         tuple((0, lot) for lot in combinations(range(10), 8)))

    def test_errors(self):
        good = ((2, ()), (0,), 1)
        bad = (LUMP, (0,), 1)
        worse = (LUMP, (1, 2), 1)
        for function in (sum_heap, right_in_sum):
            for stands, lot in [
                ((bad,), (0,)), ((good, bad, worse), (0,)), ((good, worse, bad), (1, 2)), ((good,) * 8 + (bad,), (0,)),
                ((good,) * 30 + (worse, bad), (1, 2)),
            ]:
                with self.assertRaises(NotClosed) as caught:
                    function(stands)
                self.assertEqual(caught.exception.lot, lot)
            for many in (9, 10):
                with self.assertRaises(TooMany) as caught:
                    function((good,) * many)
                self.assertEqual(caught.exception.limit, 8)
        self.assertEqual(sum_heap((good,) * 8), 0)
        self.assertEqual(sum_heap((good,) * 7), 1)


class PrizeTest(unittest.TestCase):
    def turns(self, book, lot, thing, known):
        """The turns of a closed lot and a thing of it, by [J4]'s own words."""
        lot = frozenset(lot)
        if lot not in known:
            open_to = ends(book, brute.as_lot(lot))
            if thing in open_to:
                known[lot] = 1
            else:
                left = [self.turns(book, lot - {x}, thing, known) for x in open_to]
                even = [number for number in left if number % 2 == 0]
                known[lot] = 1 + (min(even) if even else max(left))
        return known[lot]

    def gets(self, book, lot, thing, known):
        """Whether who is to move can take the thing, by going through all plays."""
        lot = frozenset(lot)
        if lot not in known:
            open_to = ends(book, brute.as_lot(lot))
            known[lot] = thing in open_to or any(not self.gets(book, lot - {x}, thing, known) for x in open_to)
        return known[lot]

    def test_by_its_words(self):
        for book in brute.learning_books(167, 40):
            for thing in range(book[0]):
                known, won = {}, {}
                for lot in closed_lots(book):
                    if thing in lot:
                        self.check(book, lot, thing, known, won)

    def check(self, book, lot, thing, known, won):
        turns = self.turns(book, lot, thing, known)
        self.assertEqual(prize_turns(book, lot, thing), turns, (book, lot, thing))
        self.assertIs(turns % 2 == 1, self.gets(book, lot, thing, won))
        open_to = ends(book, lot)
        right = (thing,) if thing in open_to else tuple(x for x in open_to if known[frozenset(lot) - {x}] == turns - 1)
        self.assertEqual(right_ends(book, lot, thing), right)
        play = prize_play(book, lot, thing)
        self.assertEqual(len(play), turns)
        self.assertEqual(play[-1], thing)
        for taken in play:
            self.assertEqual(taken, right_ends(book, lot, thing)[0])
            lot = tuple(x for x in lot if x != taken)

    def test_edges(self):
        self.assertEqual(prize_turns((1, ()), (0,), 0), 1)
        self.assertEqual(prize_play((1, ()), (0,), 0), (0,))
        self.assertEqual(right_ends((10, ()), EVERYTHING, 4), (4,))
        self.assertEqual(prize_turns(CHAIN, EVERYTHING, 9), 10)
        self.assertEqual(prize_turns(CHAIN, EVERYTHING, 0), 1)
        self.assertEqual(prize_play(CHAIN, EVERYTHING, 9), EVERYTHING)
        self.assertEqual(right_ends(CHAIN, EVERYTHING, 9), (0,))
        # The winner hurries: with 2 it would be 5 turns, with 0 it is 3.
        hurry = (5, (((0,), (4,)), ((2,), (1, 3, 4))))
        self.assertEqual(prize_turns(hurry, (0, 1, 2, 3, 4), 4), 3)
        self.assertEqual(right_ends(hurry, (0, 1, 2, 3, 4), 4), (0,))
        line = on_line((0, 1, 2))
        self.assertEqual(prize_turns(line, (0, 1, 2), 1), 2)
        self.assertEqual(right_ends(line, (0, 1, 2), 1), (0, 2))
        self.assertEqual(prize_play(line, (0, 1, 2), 1), (0, 1))

    def test_errors(self):
        line = on_line((0, 1, 2))
        for function in (prize_turns, right_ends, prize_play):
            for book in brute.not_learning_books():
                for lot in ((0,), (0, 1), ()):
                    with self.assertRaises(NotLearning) as caught:
                        function(book, lot, 0)
                    self.assertEqual(caught.exception.paper, clash(book))
            with self.assertRaises(NotClosed) as caught:
                function(line, (0, 2), 0)
            self.assertEqual(caught.exception.lot, (0, 2))


class TimeTest(unittest.TestCase):
    def test_calls_at_the_bounds(self):
        fours = (10, tuple((lot, (9,)) for lot in list(combinations(range(9), 4))[:60]))
        for book in [(10, ()), CHAIN, fours, on_line(EVERYTHING)]:
            for most in (1, 5, 10):
                for function in (takings, heap, right_takings):
                    assert_quick(self, function, book, EVERYTHING, most, seconds=3)
                assert_quick(self, heaps, book, most, seconds=3)
                assert_quick(self, sum_heap, ((book, EVERYTHING, most),) * 8, seconds=3)
                assert_quick(self, right_in_sum, ((book, EVERYTHING, most),) * 8, seconds=3)
            for function in (prize_turns, right_ends, prize_play):
                assert_quick(self, function, book, EVERYTHING, 5, seconds=3)


if __name__ == "__main__":
    unittest.main()
