"""[D1] to [D4]: tables, and the meets of their rows."""

import unittest
from itertools import combinations

from meetlots.errors import Unfit
from meetlots.lots import table_error
from meetlots.tables import (
    breaking_row, closed_pairs, is_meet, least_table, meet_of, meets, parting_meet, same_meets, shared, spare_rows,
)
from tests import brute

EVERYTHING = tuple(range(10))


def many_tables():
    return brute.small_tables()[::2] + brute.random_tables(31, 150)


def all_places(table):
    many = len(table[1])
    return [places for count in range(many + 1) for places in combinations(range(many), count)]


class MeetsTest(unittest.TestCase):
    def test_by_their_words(self):
        for table in many_tables():
            expected = brute.meets(table)
            self.assertEqual(meets(table), tuple(expected), table)
            for lot in brute.tuples_of(table[0]):
                self.assertIs(is_meet(table, lot), lot in expected)
                places = tuple(k for k, row in enumerate(table[1]) if set(lot) <= set(row))
                self.assertEqual(shared(table, lot), places)

    def test_meet_of_all_places(self):
        for table in brute.random_tables(32, 40, most_rows=5):
            for places in all_places(table):
                rows = [table[1][place] for place in places]
                self.assertEqual(meet_of(table, places), brute.as_lot(brute.meet_of_sets(table[0], rows)))

    def test_edges(self):
        for size in (0, 1, 10):
            everything = tuple(range(size))
            self.assertEqual(meets((size, ())), (everything,))
            self.assertEqual(meet_of((size, ()), ()), everything)
            self.assertEqual(shared((size, ()), everything), ())
            self.assertIs(is_meet((size, ()), everything), True)
            self.assertEqual(closed_pairs((size, ())), ((everything, ()),))
        self.assertIs(is_meet((10, ()), ()), False)
        self.assertEqual(meets((0, ((), ()))), ((),))
        self.assertEqual(shared((0, ((), ())), ()), (0, 1))
        self.assertEqual(meets((3, ((),) * 60)), ((), (0, 1, 2)))
        self.assertEqual(shared((3, ((0, 1),) * 60), (1,)), tuple(range(60)))
        rows = tuple(tuple(k for k in range(10) if k != x) for x in range(10))
        self.assertEqual(meets((10, rows)), tuple(brute.tuples_of(10)))
        self.assertEqual(meet_of((10, rows), tuple(range(10))), ())

    def test_sixty_rows(self):
        for table in brute.random_tables(33, 4, sizes=(10,), most_rows=60):
            rows = (table[1] * 60)[:60]
            self.assertEqual(meets((10, rows)), tuple(brute.meets((10, rows))))


class ClosedPairsTest(unittest.TestCase):
    def test_just_the_pairs_of_which_each_tells_the_other(self):
        for table in brute.random_tables(34, 60, sizes=(0, 1, 2, 3, 4), most_rows=5):
            expected = [
                (lot, places) for lot in brute.tuples_of(table[0]) for places in all_places(table)
                if meet_of(table, places) == lot and shared(table, lot) == places
            ]
            self.assertEqual(closed_pairs(table), tuple(expected))

    def test_its_lots_are_the_meets(self):
        for table in many_tables():
            self.assertEqual(tuple(lot for lot, _ in closed_pairs(table)), meets(table))
            for lot, places in closed_pairs(table):
                self.assertEqual(places, shared(table, lot))


class SpareRowsTest(unittest.TestCase):
    def test_by_its_words(self):
        for table in many_tables():
            size, rows = table
            expected = tuple(
                place for place in range(len(rows))
                if brute.meets((size, rows[:place] + rows[place + 1:])) == brute.meets(table)
            )
            self.assertEqual(spare_rows(table), expected, table)

    def test_edges(self):
        self.assertEqual(spare_rows((10, ())), ())
        self.assertEqual(spare_rows((10, (EVERYTHING,))), (0,))
        self.assertEqual(spare_rows((0, ((),))), (0,))
        self.assertEqual(spare_rows((10, ((),))), ())
        self.assertEqual(spare_rows((10, ((), ()))), (0, 1))
        self.assertEqual(spare_rows((2, ((0,), (1,), ()))), (2,))
        self.assertEqual(spare_rows((2, ((0, 1),) * 60)), tuple(range(60)))


class LeastTableTest(unittest.TestCase):
    def test_what_it_promises(self):
        for table in many_tables():
            found = least_table(table)
            self.assertIs(table_error(found), None)
            self.assertEqual(found[0], table[0])
            self.assertEqual(brute.meets(found), brute.meets(table))
            self.assertIs(same_meets(table, found), True)
            self.assertEqual(list(found[1]), sorted(set(found[1]), key=brute.lot_key))
            self.assertEqual(spare_rows(found), ())
            self.assertLessEqual(set(found[1]), set(table[1]))

    def test_the_same_just_for_alike_tables(self):
        tables = brute.small_tables()[::3] + brute.random_tables(35, 60, sizes=(3,), most_rows=4)
        for table in tables:
            for other in tables:
                if table[0] == other[0]:
                    same = brute.meets(table) == brute.meets(other)
                    self.assertIs(least_table(table) == least_table(other), same)

    def test_edges(self):
        self.assertEqual(least_table((0, ((), ()))), (0, ()))
        self.assertEqual(least_table((10, ())), (10, ()))
        self.assertEqual(least_table((10, (EVERYTHING, EVERYTHING))), (10, ()))
        self.assertEqual(least_table((10, ((),) * 60)), (10, ((),)))
        self.assertEqual(least_table((2, ((1,), (), (0,), (1,)))), (2, ((0,), (1,))))


class BreakingRowTest(unittest.TestCase):
    def test_by_its_words(self):
        for table in brute.small_tables()[::5] + brute.random_tables(36, 30, sizes=(3,)):
            lots = brute.tuples_of(table[0])
            for rule in [(a, b) for a in lots for b in lots]:
                broken = [place for place, row in enumerate(table[1]) if not brute.keeps(row, rule)]
                self.assertEqual(breaking_row(table, rule), broken[0] if broken else None)
                kept = all(brute.keeps(lot, rule) for lot in brute.meets(table))
                self.assertIs(breaking_row(table, rule) is None, kept)

    def test_edges(self):
        self.assertIs(breaking_row((10, ()), ((), EVERYTHING)), None)
        self.assertIs(breaking_row((0, ((),)), ((), ())), None)
        self.assertIs(breaking_row((10, (EVERYTHING,) * 60), ((), EVERYTHING)), None)
        self.assertEqual(breaking_row((10, (EVERYTHING,) * 59 + ((),)), ((), (9,))), 59)
        self.assertEqual(breaking_row((2, ((), ())), ((), (0,))), 0)
        self.assertIs(breaking_row((2, ((0,),)), ((0,), ())), None)


class PartingMeetTest(unittest.TestCase):
    def test_by_their_words(self):
        tables = brute.small_tables()[::4] + brute.random_tables(37, 50, sizes=(3,), most_rows=4)
        for table in tables:
            for other in tables:
                if table[0] == other[0]:
                    self.check(table, other)

    def check(self, table, other):
        mine, theirs = brute.meets(table), brute.meets(other)
        apart = [lot for lot in brute.tuples_of(table[0]) if (lot in mine) != (lot in theirs)]
        self.assertEqual(parting_meet(table, other), apart[0] if apart else None)
        self.assertIs(same_meets(table, other), not apart)

    def test_edges(self):
        self.assertIs(same_meets((0, ()), (0, ((), ()))), True)
        self.assertIs(parting_meet((10, ()), (10, (EVERYTHING,) * 60)), None)
        self.assertEqual(parting_meet((10, ()), (10, ((),))), ())
        self.assertEqual(parting_meet((2, ((1,),)), (2, ((0,), (1,)))), ())
        self.assertEqual(parting_meet((2, ((), (1,))), (2, ((0,), (1,)))), (0,))

    def test_unlike_sizes(self):
        for table, other in [((0, ()), (1, ())), ((3, ((0,),)), (2, ((0,),))), ((10, ()), (9, ()))]:
            for function in (same_meets, parting_meet):
                with self.assertRaises(Unfit):
                    function(table, other)
                with self.assertRaises(Unfit):
                    function(other, table)


if __name__ == "__main__":
    unittest.main()
