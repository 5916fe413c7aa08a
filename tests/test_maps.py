"""[G5] to [G7]: maps, and the books that are led along them."""

import unittest
from itertools import combinations, product

from meetlots.books import closed_lots, is_closed
from meetlots.errors import TooMany, Unfit
from meetlots.maps import after, is_map, is_smooth, led, pulled, pushed, rough, rough_rule, source
from tests import brute
from tests.clock import assert_quick
from tests.values import ODD

EVERYTHING = tuple(range(10))


def maps(size, other_size):
    return list(product(range(other_size), repeat=size))


def sets_led(lead, lot):
    return frozenset(lead[thing] for thing in lot)


def set_source(lead, lot):
    return frozenset(thing for thing in range(len(lead)) if lead[thing] in lot)


def books_and_maps():
    """Books, others and maps from the ones to the others."""
    books = brute.small_books()[::23] + brute.random_books(81, 10, sizes=(2, 3), most_rules=4)
    found = []
    for book in books:
        for other in books:
            found.extend((book, other, lead) for lead in maps(book[0], other[0])[::2])
    return found


class IsMapTest(unittest.TestCase):
    def test_all_maps_of_small_sizes(self):
        for size in range(4):
            for other_size in range(4):
                for value in product(range(5), repeat=size):
                    self.assertIs(is_map(size, other_size, value), all(x < other_size for x in value))

    def test_edges(self):
        self.assertIs(is_map(0, 0, ()), True)
        self.assertIs(is_map(0, 10, ()), True)
        self.assertIs(is_map(1, 0, ()), False)
        self.assertIs(is_map(1, 0, (0,)), False)
        self.assertIs(is_map(10, 10, EVERYTHING[::-1]), True)
        self.assertIs(is_map(10, 1, (0,) * 10), True)
        self.assertIs(is_map(10, 9, EVERYTHING), False)
        self.assertIs(is_map(9, 10, EVERYTHING), False)
        self.assertIs(is_map(10, 10, EVERYTHING + (0,)), False)
        self.assertIs(is_map(1, 10, (10,)), False)
        self.assertIs(is_map(1, 10, (-1,)), False)

    def test_wrong_values(self):
        for value in [[], [0, 1], [1, 0], {}, {0: 1, 1: 0}, None, "01", 0, (True, False), (0, True), (0, None), (0, "1"),
                      (0, (1,)), ((0, 1),), ((), ()), (0, 10 ** 399), (0, -1), (0,), (0, 1, 0)]:
            self.assertIs(is_map(2, 2, value), False, value)
        for value in ODD:
            for size in (0, 1, 2):
                told = type(value) is tuple and all(type(x) is int for x in value) and value in maps(size, 4)
                self.assertIs(is_map(size, 4, value), told, value)


class LedTest(unittest.TestCase):
    def test_by_their_words(self):
        for size, other_size in product(range(4), range(4)):
            for lead in maps(size, other_size):
                for lot in brute.tuples_of(size):
                    self.assertEqual(led(lead, lot), brute.as_lot(sets_led(lead, lot)))
                for lot in brute.tuples_of(other_size):
                    self.assertEqual(source(lead, lot), brute.as_lot(set_source(lead, lot)))

    def test_edges(self):
        self.assertEqual((led((), ()), source((), ()), source((), EVERYTHING)), ((), (), ()))
        self.assertEqual(led((3,) * 10, EVERYTHING), (3,))
        self.assertEqual(source((3,) * 10, (3,)), EVERYTHING)
        self.assertEqual(source((3,) * 10, (0, 1, 2, 4)), ())
        self.assertEqual(led((9, 0), (0, 1)), (0, 9))

    def test_after(self):
        for lead in maps(3, 2) + maps(2, 3) + maps(0, 2):
            for further in maps(2, 3) + maps(3, 1) + maps(0, 3):
                if any(goal >= len(further) for goal in lead):
                    with self.assertRaises(Unfit):
                        after(lead, further)
                else:
                    found = after(lead, further)
                    self.assertEqual(found, tuple(further[goal] for goal in lead))
                    for lot in brute.tuples_of(len(lead)):
                        self.assertEqual(led(found, lot), led(further, led(lead, lot)))

    def test_edges_of_after(self):
        self.assertEqual(after((), ()), ())
        self.assertEqual(after((), (1, 2)), ())
        self.assertEqual(after((9,) * 10, EVERYTHING[::-1]), (0,) * 10)
        with self.assertRaises(Unfit):
            after((0,), ())
        with self.assertRaises(Unfit):
            after((0, 1, 2), (5, 5))


class SmoothTest(unittest.TestCase):
    def test_by_their_words(self):
        for book, other, lead in books_and_maps():
            closed = brute.closed_sets(book)
            bad = [
                (brute.as_lot(lot), brute.as_lot(set_source(lead, lot))) for lot in brute.closed_sets(other)
                if set_source(lead, lot) not in closed
            ]
            self.assertEqual(rough(book, other, lead), bad[0] if bad else None)
            self.assertIs(is_smooth(book, other, lead), not bad)
            self.check_rule(book, other, lead)

    def check_rule(self, book, other, lead):
        places = [
            place for place, (ahead, behind) in enumerate(book[1])
            if not sets_led(lead, behind) <= brute.closure(other, sets_led(lead, ahead))
        ]
        self.assertEqual(rough_rule(book, other, lead), places[0] if places else None)
        self.assertIs(is_smooth(book, other, lead), not places)

    def test_smooth_maps_behind_one_another(self):
        books = brute.families(2)
        for book, other, third in product(books, books, books):
            for lead in maps(2, 2):
                for further in maps(2, 2):
                    if is_smooth(book, other, lead) and is_smooth(other, third, further):
                        self.assertIs(is_smooth(book, third, after(lead, further)), True)

    def test_edges(self):
        for other in [(0, ()), (10, ()), (10, (((), EVERYTHING),))]:
            self.assertIs(is_smooth((0, ()), other, ()), True)
            self.assertIs(rough((0, (((), ()),)), other, ()), None)
            self.assertIs(rough_rule((0, (((), ()),) * 60), other, ()), None)
        self.assertEqual(rough((10, (((), (9,)),)), (10, ()), EVERYTHING), ((), ()))
        self.assertEqual(rough_rule((2, (((0,), (0,)),) * 59 + (((0,), (1,)),)), (2, ()), (0, 1)), 59)
        self.assertIs(is_smooth((2, (((0,), (1,)),)), (1, ()), (0, 0)), True)
        self.assertEqual(rough((2, (((), (0,)),)), (1, ()), (0, 0)), ((), ()))
        self.assertIs(is_smooth((10, ()), (1, ()), (0,) * 10), True)

    def test_no_maps_of_these_sizes(self):
        for book, other, lead in [
            ((2, ()), (2, ()), (0,)), ((2, ()), (2, ()), (0, 1, 0)), ((2, ()), (2, ()), (0, 2)), ((1, ()), (0, ()), (0,)),
            ((0, ()), (1, ()), (0,)), ((2, ()), (0, ()), ()), ((10, ()), (9, ()), EVERYTHING),
        ]:
            for function in (is_smooth, rough, rough_rule):
                with self.assertRaises(Unfit):
                    function(book, other, lead)


class PulledTest(unittest.TestCase):
    def test_by_its_words(self):
        for other in brute.small_books()[::11] + brute.families(3)[::3] + brute.random_books(82, 20, sizes=(3, 4)):
            for size in range(4):
                for lead in maps(size, other[0])[::3]:
                    family = {set_source(lead, lot) for lot in brute.closed_sets(other)}
                    self.assertEqual(pulled(other, lead), brute.stem_among(size, family))

    def test_pushed_by_its_words(self):
        for book in brute.small_books()[::11] + brute.families(3)[::3] + brute.random_books(83, 20, sizes=(3,)):
            closed = brute.closed_sets(book)
            for other_size in range(5):
                for lead in maps(book[0], other_size)[::5]:
                    family = [lot for lot in brute.sets_of(other_size) if set_source(lead, lot) in closed]
                    self.assertEqual(pushed(book, other_size, lead), brute.stem_among(other_size, family))

    def test_smooth_just_if_closed_there(self):
        for book, other, lead in books_and_maps()[::3]:
            smooth = is_smooth(book, other, lead)
            here = all(is_closed(book, lot) for lot in closed_lots(pulled(other, lead)))
            there = pushed(book, other[0], lead)
            self.assertIs(smooth, here)
            self.assertIs(smooth, all(is_closed(there, lot) for lot in closed_lots(other)))

    def test_edges(self):
        self.assertEqual(pulled((0, ()), ()), (0, ()))
        self.assertEqual(pulled((10, (((), EVERYTHING),)), ()), (0, ()))
        self.assertEqual(pulled((1, ()), (0,) * 10), (10, tuple(
            ((k,), tuple(x for x in range(10) if x != k)) for k in range(10)
        )))
        self.assertEqual(pulled((10, (((), (3,)),)), (3, 3, 0)), (3, (((), (0, 1)),)))
        self.assertEqual(pushed((0, (((), ()),)), 0, ()), (0, ()))
        self.assertEqual(pushed((0, ()), 10, ()), (10, ()))
        self.assertEqual(pushed((10, ()), 1, (0,) * 10), (1, ()))
        self.assertEqual(pushed((10, (((), (0,)),)), 1, (0,) * 10), (1, (((), (0,)),)))
        self.assertEqual(pushed((1, (((), (0,)),)), 10, (9,)), (10, (((), (9,)),)))
        self.assertEqual(pushed((2, (((), (0, 1)),) * 60), 3, (1, 1)), (3, (((), (1,)),)))

    def test_no_maps_of_these_sizes(self):
        for other, lead in [((0, ()), (0,)), ((2, ()), (2,)), ((2, ()), (0, 1, 2)), ((9, ()), EVERYTHING)]:
            with self.assertRaises(Unfit):
                pulled(other, lead)
        for book, other_size, lead in [
            ((1, ()), 0, (0,)), ((2, ()), 2, (0,)), ((2, ()), 2, (0, 1, 1)), ((2, ()), 2, (0, 2)), ((0, ()), 2, (0,)),
            ((10, ()), 9, EVERYTHING),
        ]:
            with self.assertRaises(Unfit):
                pushed(book, other_size, lead)

    def test_sixty_rules_and_one_more(self):
        tens, sixes = tuple(combinations(range(5), 2)), tuple(combinations(range(5, 9), 2))
        rules = tuple((lot, (9,)) for lot in tens) + tuple((lot + (9,), EVERYTHING) for lot in sixes)
        turned = tuple(range(8, -1, -1))
        found = pulled((10, rules), turned)
        self.assertEqual((found[0], len(found[1])), (9, 60))
        with self.assertRaises(TooMany) as caught:
            pulled((10, rules + (((0, 1, 2), EVERYTHING),)), turned)
        self.assertEqual(caught.exception.limit, 60)

    def test_sixty_rules_pushed(self):
        book = (10, tuple((lot, EVERYTHING) for lot in list(combinations(range(10), 4))[:60]))
        found = pushed(book, 10, EVERYTHING[::-1])
        expected = {tuple(9 - x for x in reversed(ahead)) for ahead, _ in book[1]}
        self.assertEqual({ahead for ahead, _ in found[1]}, expected)


class TimeTest(unittest.TestCase):
    def test_calls_at_the_bounds(self):
        books = brute.random_books(84, 2, sizes=(10,), most_rules=60, most_things=4)
        books += [(10, ()), (10, tuple((lot, EVERYTHING) for lot in list(combinations(range(10), 5))[:60]))]
        for book in books:
            for lead in (EVERYTHING, EVERYTHING[::-1], (0,) * 10, tuple(k // 2 for k in range(10))):
                for other in books:
                    for function in (is_smooth, rough, rough_rule):
                        assert_quick(self, function, book, other, lead)
                assert_quick(self, pulled, book, lead)
                assert_quick(self, pushed, book, 10, lead)


if __name__ == "__main__":
    unittest.main()
