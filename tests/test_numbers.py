"""[I6] to [I11] and [A2] (f): the numbers of learning books."""

import random
import unittest
from itertools import combinations, product

from meetlots.books import closed_lots
from meetlots.errors import NotClosed, NotLearning
from meetlots.hulls import below, on_line, on_plane
from meetlots.learning import clash
from meetlots.numbers import (
    carried, few_apart, few_makers, greatest_free, greatest_whole, helly_holds, helly_lots, numbers, parted,
    parted_holds,
)
from tests import brute
from tests.clock import assert_quick
from tests.values import ODD

EVERYTHING = tuple(range(10))
FIVE = on_plane(((0, 0), (4, 0), (0, 4), (1, 1), (2, 0)))
CHAIN = (10, tuple(((k,), (k + 1,)) for k in range(9)))
FOURS = (10, tuple((lot, (9,)) for lot in list(combinations(range(9), 4))[:60]))


def learning_books():
    return brute.learning_books(151, 30) + [FIVE, on_line((2, 0, 1, 3))]


def meet_all(size, lots):
    return bool(brute.meet_of_sets(size, lots))


def closure_of(book):
    """The closures of all lots, by the lots as frozensets."""
    closed = brute.closed_sets(book)
    return {lot: brute.closure_among(book[0], closed, lot) for lot in brute.sets_of(book[0])}


def first_of_most(lots):
    most = max(len(lot) for lot in lots)
    return brute.lots_in_order([lot for lot in lots if len(lot) == most])[0]


def is_helly(book, value):
    """What [I7] says of some closed lots."""
    size = book[0]
    return len(value) > 0 and not meet_all(size, value) and all(
        meet_all(size, value[:k] + value[k + 1:]) for k in range(len(value))
    )


class HellyTest(unittest.TestCase):
    def test_greatest_free(self):
        for book in learning_books():
            closed = brute.closed_sets(book)
            free = [lot for lot in closed if all(lot - {x} in closed for x in lot)]
            found = greatest_free(book)
            self.assertEqual(found, first_of_most(free), book)
            self.assertTrue(all(frozenset(lot) in closed for k in range(len(found)) for lot in combinations(found, k)))

    def test_helly_lots(self):
        for book in learning_books():
            whole = greatest_free(book)
            found = helly_lots(book)
            self.assertEqual(found, tuple(tuple(y for y in whole if y != x) for x in whole))
            self.assertIs(helly_holds(book, found), book[0] > 0)
            self.assertEqual(is_helly(book, found), book[0] > 0)

    def test_all_choices_of_closed_lots(self):
        for book in brute.learning_books(152, 6):
            lots = closed_lots(book)
            for many in range(4 if len(lots) < 12 else 3):
                for value in product(lots, repeat=many):
                    self.assertIs(helly_holds(book, value), is_helly(book, value), (book, value))
                    if is_helly(book, value):
                        self.assertLessEqual(len(value), len(greatest_free(book)))

    def test_edges(self):
        self.assertEqual(greatest_free((0, ())), ())
        self.assertEqual(helly_lots((0, ())), ())
        self.assertIs(helly_holds((0, ()), ()), False)
        self.assertIs(helly_holds((0, ()), ((),)), False)
        self.assertIs(helly_holds((0, ()), ((), ())), False)
        self.assertIs(helly_holds((1, ()), ((),)), True)
        self.assertIs(helly_holds((1, ()), ()), False)
        self.assertIs(helly_holds((1, ()), ((), ())), False)
        self.assertIs(helly_holds((1, ()), ((0,),)), False)
        self.assertEqual(greatest_free((10, ())), EVERYTHING)
        self.assertEqual(helly_lots((10, ())), tuple(combinations(range(10), 9))[::-1])
        self.assertIs(helly_holds((10, ()), helly_lots((10, ()))), True)
        self.assertEqual(greatest_free(CHAIN), (9,))
        self.assertEqual(helly_lots(CHAIN), ((),))
        self.assertIs(helly_holds(CHAIN, ((9,),)), False)

    def test_wrong_values(self):
        self.assertIs(helly_holds(FIVE, ((0, 1, 4), (2, 3))), True)
        for value in ODD + [
            [(0, 1, 4), (2, 3)], ((0, 1, 4), [2, 3]), ((0, 1, 4), (3, 2)), ((0, 1, 4), (2, 3, 3)), ((0, 1, 4), (2, 5)),
            ((False, 1, 4), (2, 3)), ((0, True, 4), (2, 3)), ((0, 1, 4), "23"), ((0, 1, 4), None), ((0, 1, 4), 2),
            ((0, 1), (2, 3)), ((0, 1, 4), (2, 3), (2, 3)), ((0, 1, 4), (1, 2)), {(0, 1, 4): (2, 3)},
            ((0, 1, 4), {2: 3}), ((0, 1, 4), ((2,), 3)), ((0, 1, 4), (2, 10 ** 399)), ((0, 1, 4), (-1, 2)),
        ]:
            if value != ((),):
                self.assertIs(helly_holds(FIVE, value), False, value)
        self.assertIs(helly_holds(FIVE, ((),)), True)


class FewApartTest(unittest.TestCase):
    def by_its_words(self, book, lots):
        size = book[0]
        if meet_all(size, lots):
            return None
        for many in range(len(lots) + 1):
            for places in combinations(range(len(lots)), many):
                if not meet_all(size, [lots[place] for place in places]):
                    return places
        raise AssertionError("some lots do not meet, and do")

    def test_by_its_words(self):
        chance = random.Random(153)
        for book in learning_books():
            lots = closed_lots(book)
            most = len(greatest_free(book))
            for _ in range(12):
                value = tuple(chance.choice(lots) for _ in range(chance.randint(0, 7)))
                found = few_apart(book, value)
                self.assertEqual(found, self.by_its_words(book, value), (book, value))
                # [A2] (f): as many as the Helly number are enough to see that they do not meet.
                self.assertTrue(found is None or len(found) <= most)
            self.assertEqual(len(few_apart(book, helly_lots(book))), most)

    def test_edges(self):
        self.assertIs(few_apart((1, ()), ()), None)
        self.assertIs(few_apart((10, ()), ()), None)
        self.assertIs(few_apart((10, ()), (EVERYTHING,) * 12), None)
        self.assertEqual(few_apart((0, ()), ()), ())
        self.assertEqual(few_apart((0, ()), ((),) * 12), ())
        self.assertEqual(few_apart((10, ()), (EVERYTHING,) * 11 + ((),)), (11,))
        self.assertEqual(few_apart((10, ()), ((0,), (0,), (1,), (0,), (1,))), (0, 2))
        nine = tuple(combinations(range(10), 9))
        self.assertEqual(few_apart((10, ()), nine), tuple(range(10)))
        self.assertEqual(few_apart((10, ()), nine[:1] + nine + nine[:1]), (0,) + tuple(range(2, 11)))

    def test_errors(self):
        line = on_line((0, 1, 2))
        for lots, lot in [
            (((0, 2),), (0, 2)), (((0, 1), (0, 2), (0, 2)), (0, 2)), (((),) * 11 + ((0, 2),), (0, 2)),
        ]:
            with self.assertRaises(NotClosed) as caught:
                few_apart(line, lots)
            self.assertEqual(caught.exception.lot, lot)
        with self.assertRaises(NotClosed) as caught:
            few_apart(FIVE, ((0,), (1, 2, 4), (0, 1), (1, 2)))
        self.assertEqual(caught.exception.lot, (0, 1))


class MakersTest(unittest.TestCase):
    def test_by_their_words(self):
        for book in learning_books():
            size = book[0]
            whole = closure_of(book)
            told = {}
            for lot in brute.tuples_of(size):
                parts = brute.lots_in_order(part for part in brute.sets_of(size) if part <= set(lot))
                for thing in range(size):
                    carrying = [part for part in parts if thing in whole[frozenset(part)]]
                    told[lot, thing] = carrying[0] if carrying else None
                    if size <= 4:
                        self.assertEqual(carried(book, lot, thing), told[lot, thing], (book, lot, thing))
            number = max((len(part) for part in told.values() if part is not None), default=0)
            shown = [(x, lot) for (lot, x), part in told.items() if part == lot and len(lot) == number]
            shown.sort(key=lambda pair: (brute.lot_key(pair[1]), pair[0]))
            self.assertEqual(few_makers(book), (number, shown[0] if shown else None), book)

    def test_edges(self):
        self.assertEqual(few_makers((0, ())), (0, None))
        self.assertEqual(few_makers((0, (((), ()),) * 60)), (0, None))
        self.assertEqual(few_makers((1, ())), (1, (0, (0,))))
        self.assertEqual(few_makers((10, ())), (1, (0, (0,))))
        self.assertEqual(few_makers(FOURS), (4, (9, (0, 1, 2, 3))))
        # All things of a lot bring one that two of them bring, too.
        self.assertEqual(carried((3, (((0, 1), (2,)),)), (0, 1), 2), (0, 1))
        self.assertEqual(carried((10, ()), EVERYTHING, 7), (7,))
        self.assertIs(carried((10, ()), (), 7), None)
        self.assertEqual(carried(CHAIN, EVERYTHING, 9), (0,))
        self.assertEqual(carried(CHAIN, (3, 5), 9), (3,))
        self.assertIs(carried(CHAIN, (3, 5), 2), None)


class PartedTest(unittest.TestCase):
    def partings(self, book, lot):
        """All triples that part a lot."""
        whole = closure_of(book)
        return [
            (left, right, thing) for left in brute.tuples_of(book[0]) for right in brute.tuples_of(book[0])
            if not set(left) & set(right) and set(left) | set(right) == set(lot)
            for thing in sorted(whole[frozenset(left)] & whole[frozenset(right)])
        ]

    def by_its_words(self, book, lot):
        found = [one for one in self.partings(book, lot) if lot and lot[0] in one[0]]
        return min(found, key=lambda one: (brute.lot_key(one[0]), one[2]), default=None)

    def test_by_its_words(self):
        for book in learning_books():
            if book[0] <= 4 or book == FIVE:
                for lot in brute.tuples_of(book[0]):
                    found = parted(book, lot)
                    self.assertEqual(found, self.by_its_words(book, lot), (book, lot))
                    if found is not None:
                        self.assertIs(parted_holds(book, lot, found), True)
                        self.assertIs(parted_holds(book, lot, (found[1], found[0], found[2])), True)

    def test_all_triples(self):
        for book in brute.learning_books(154, 0) + [on_line((0, 1, 2))]:
            size = book[0]
            lots = brute.tuples_of(size)
            for lot in lots:
                known = self.partings(book, lot)
                for value in product(lots, lots, range(size + 1)):
                    self.assertIs(parted_holds(book, lot, value), value in known, (book, lot, value))

    def test_greatest_whole(self):
        for book in learning_books():
            whole = [lot for lot in brute.tuples_of(book[0]) if parted(book, lot) is None]
            self.assertEqual(greatest_whole(book), first_of_most(whole))

    def test_edges(self):
        self.assertIs(parted((0, ()), ()), None)
        self.assertEqual(greatest_whole((0, ())), ())
        self.assertIs(parted_holds((0, ()), (), ((), (), 0)), False)
        self.assertIs(parted((10, ()), EVERYTHING), None)
        self.assertEqual(greatest_whole((10, ())), EVERYTHING)
        self.assertEqual(greatest_whole(CHAIN), (0,))
        self.assertEqual(parted(CHAIN, (3, 7)), ((3,), (7,), 7))
        self.assertEqual(parted(on_line(EVERYTHING), EVERYTHING), ((0, 2), (1, 3, 4, 5, 6, 7, 8, 9), 1))
        self.assertIs(parted(on_line(EVERYTHING), (2,)), None)

    def test_wrong_values(self):
        lot = (0, 1, 2, 3, 4)
        good = ((0, 1), (2, 3, 4), 4)
        self.assertIs(parted_holds(FIVE, lot, good), True)
        for value in ODD + [
            list(good), ([0, 1], (2, 3, 4), 4), ((0, 1), [2, 3, 4], 4), ((0, 1), (2, 3, 4), True),
            ((0, 1), (2, 3, 4), "4"), ((0, 1), (2, 3, 4), None), ((0, 1), (2, 3, 4), 5), ((0, 1), (2, 3, 4), -1),
            ((0, 1), (2, 3, 4), (4,)), ((0, 1), (2, 3, 4)), good + (4,), ((1, 0), (2, 3, 4), 4),
            ((False, 1), (2, 3, 4), 4), ((0, True), (2, 3, 4), 4), ((0, 1), (2, 3), 4), ((0, 1), (1, 2, 3, 4), 4),
            ((0, 1), (2, 3, 4), 3), ((0, 1), (2, 3, 4), 0), ((0, 1), (2, 3, 5), 4), ({0: 1}, (2, 3, 4), 4),
            {0: (0, 1), 1: (2, 3, 4), 2: 4}, ((0, 1), (2, 3, 4), 10 ** 399), ("01", "234", 4),
        ]:
            self.assertIs(parted_holds(FIVE, lot, value), False, value)
        self.assertIs(parted_holds(FIVE, (0, 1, 2), ((0, 1), (2, 3, 4), 4)), False)
        self.assertIs(parted_holds(on_line((0, 1, 2)), (0, 1, 2), ((0, 2), (1,), 1)), True)
        for thing in (True, 1.0, "1", (1,), [1], None):
            self.assertIs(parted_holds(on_line((0, 1, 2)), (0, 1, 2), ((0, 2), (1,), thing)), False)


class WholeTest(unittest.TestCase):
    def test_numbers(self):
        for book in learning_books():
            found = numbers(book)
            self.assertEqual(found, (len(greatest_free(book)), few_makers(book)[0], len(greatest_whole(book))))
            self.assertLessEqual(found[0], found[2])
        self.assertEqual(numbers((0, ())), (0, 0, 0))
        self.assertEqual(numbers((10, ())), (10, 1, 10))
        self.assertEqual(numbers(CHAIN), (1, 1, 1))
        self.assertEqual(numbers(below(1, ())), (1, 1, 1))

    def test_helly_number(self):
        """[A2] (f): closed lots of which any so many have a thing in common all have one."""
        for book in brute.learning_books(155, 10):
            size = book[0]
            lots = closed_lots(book)
            many = len(greatest_free(book))
            for value in combinations(lots, min(many + 1, len(lots))):
                if all(meet_all(size, some) for k in range(many + 1) for some in combinations(value, k)):
                    self.assertTrue(meet_all(size, value))

    def test_greater_lots_are_parted(self):
        """[A2] (f): each lot with more things than greatest_whole can be parted."""
        for book in learning_books():
            most = len(greatest_whole(book))
            for lot in brute.tuples_of(book[0]):
                if len(lot) > most:
                    self.assertIs(parted_holds(book, lot, parted(book, lot)), True)

    def test_few_things_carry(self):
        """[A2] (f): a thing in the closure of a lot is in that of few of its things."""
        for book in learning_books():
            number = few_makers(book)[0]
            for lot, whole in closure_of(book).items():
                for thing in whole:
                    self.assertLessEqual(len(carried(book, brute.as_lot(lot), thing)), number)

    def test_learning_books_alone(self):
        # Also where a further argument is at fault, too.
        for book in brute.not_learning_books():
            for function, more in [
                (greatest_free, ()), (helly_lots, ()), (helly_holds, (None,)), (helly_holds, ((),)),
                (few_apart, ((),)), (few_apart, (((0,),),)), (carried, ((0,), 0)), (few_makers, ()), (parted, ((0,),)),
                (parted_holds, ((0,), None)), (greatest_whole, ()), (numbers, ()),
            ]:
                with self.assertRaises(NotLearning) as caught:
                    function(book, *more)
                self.assertEqual(caught.exception.paper, clash(book))


class TimeTest(unittest.TestCase):
    def test_calls_at_the_bounds(self):
        for book in [(10, ()), CHAIN, FOURS, on_line(EVERYTHING)]:
            for function in (greatest_free, helly_lots, few_makers, greatest_whole, numbers):
                assert_quick(self, function, book, seconds=3)
            assert_quick(self, carried, book, EVERYTHING, 9, seconds=3)
            assert_quick(self, parted, book, EVERYTHING, seconds=3)
            assert_quick(self, helly_holds, book, ((),) * 3000, seconds=3)
        nine = tuple(combinations(range(10), 9))
        assert_quick(self, few_apart, (10, ()), nine + nine[:2], seconds=3)
        assert_quick(self, few_apart, (10, ()), (EVERYTHING,) * 12, seconds=3)


if __name__ == "__main__":
    unittest.main()
