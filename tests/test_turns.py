"""[E1] to [E6]: from books to tables and back, and lots that hit others."""

import unittest
from itertools import combinations

from meetlots.books import alike, closed_lots, follows
from meetlots.errors import NotClosed, TooMany, Unfit
from meetlots.leastbooks import near_pairs, stem
from meetlots.lots import book_error, table_error
from meetlots.masks import meets_of
from meetlots.tables import breaking_row, least_table, meets, same_meets
from meetlots.turns import (
    barred, book_of, greatest_without, hit_fault, hits, kept_by, lacking, least_lots, only_above, own_lots,
    rules_for, table_of, with_lot,
)
from tests import brute
from tests.clock import assert_quick

EVERYTHING = tuple(range(10))
EIGHT = tuple(range(8))
BLOCKS = [lot for lot in combinations(EIGHT, 4) if lot[0] ^ lot[1] ^ lot[2] ^ lot[3] == 0]


def many_books():
    return brute.small_books()[::4] + brute.families(3) + brute.random_books(41, 90)


def many_tables():
    return brute.small_tables()[::3] + brute.random_tables(42, 90)


def book_with_rows(many):
    """A book with so many irreducible lots: those lots of four of eight things that are none of the first blocks.

    No two blocks have three things in common, so each lot of three things is the meet of several.
    """
    cut = BLOCKS[:70 - many]
    rules = [(lot, EIGHT) for lot in cut]
    rules += [(lot, EIGHT) for lot in combinations(EIGHT, 5) if not any(set(block) <= set(lot) for block in cut)]
    return (8, tuple(rules))


def table_with_rules(many):
    """A table whose stem has so many rules: one for each of 84 lots of three things that is no row."""
    rows = tuple(combinations(range(9), 2))
    triples = tuple((0, a, b) for a, b in combinations(range(1, 9), 2))
    return (9, rows + triples[:84 - many])


def book_with_first(many):
    """A book to which the lot (0, 1, 2, 3) can be put so that its stem has so many rules.

    In the place of the rule with this lot ahead there are then six, with a thing more ahead.
    """
    first = (0, 1, 2, 3)
    others = [lot for lot in combinations(range(10), 4) if len(set(lot) & set(first)) <= 2]
    return (10, tuple((lot, EVERYTHING) for lot in [first] + others[:many - 6]))


# Sixty lots of five things, of which those that keep a rule can need more than sixty rows.
FIVES = (10, tuple(combinations(range(10), 5))[::4][:60])


class TableOfTest(unittest.TestCase):
    def test_by_its_words(self):
        for book in many_books():
            found = table_of(book)
            self.assertEqual(found, (book[0], brute.irreducible_among(book[0], brute.closed_sets(book))), book)
            self.assertIs(table_error(found), None)
            self.assertEqual(meets(found), closed_lots(book))
            self.assertEqual(least_table(found), found)

    def test_edges(self):
        self.assertEqual(table_of((0, ())), (0, ()))
        self.assertEqual(table_of((0, (((), ()),) * 60)), (0, ()))
        self.assertEqual(table_of((10, (((), EVERYTHING),))), (10, ()))
        rows = tuple(EVERYTHING[:k] + EVERYTHING[k + 1:] for k in reversed(range(10)))
        self.assertEqual(table_of((10, ())), (10, rows))
        self.assertEqual(table_of((1, ())), (1, ((),)))

    def test_sixty_rows_and_one_more(self):
        found = table_of(book_with_rows(60))
        self.assertEqual(len(found[1]), 60)
        self.assertEqual(found[1], tuple(lot for lot in combinations(EIGHT, 4) if lot not in BLOCKS[:10]))
        for many in (61, 65, 70):
            self.assertIs(book_error(book_with_rows(many)), None)
            with self.assertRaises(TooMany) as caught:
                table_of(book_with_rows(many))
            self.assertEqual(caught.exception.limit, 60)

    def test_alike_books_have_the_same_irreducible_lots(self):
        books = brute.random_books(43, 60, sizes=(3,), most_rules=4)
        for book in books:
            for other in books:
                self.assertIs(table_of(book) == table_of(other), alike(book, other))
                self.assertIs(stem(book) == stem(other), alike(book, other))


class OnlyAboveTest(unittest.TestCase):
    def only_one(self, closed, lot):
        greater = [other for other in closed if lot < other]
        found = [other for other in greater if all(other <= one for one in greater)]
        return brute.as_lot(found[0]) if found else None

    def test_by_its_words(self):
        for book in many_books():
            closed = brute.closed_sets(book)
            rows = brute.irreducible_among(book[0], closed)
            for lot in closed:
                found = only_above(book, brute.as_lot(lot))
                self.assertEqual(found, self.only_one(closed, lot))
                self.assertIs(found is not None, brute.as_lot(lot) in rows)

    def test_edges(self):
        self.assertIs(only_above((0, ()), ()), None)
        self.assertIs(only_above((10, ()), EVERYTHING), None)
        self.assertEqual(only_above((10, ()), EVERYTHING[1:]), EVERYTHING)
        self.assertIs(only_above((10, ()), ()), None)
        self.assertEqual(only_above((10, (((0,), EVERYTHING),)), EVERYTHING[1:]), EVERYTHING)

    def test_lots_that_are_not_closed(self):
        for book in many_books():
            closed = closed_lots(book)
            for lot in brute.tuples_of(book[0]):
                if lot not in closed:
                    for function in (only_above, barred):
                        with self.assertRaises(NotClosed) as caught:
                            function(book, lot)
                        self.assertEqual(caught.exception.lot, lot)


class BookOfTest(unittest.TestCase):
    def test_by_its_words(self):
        for table in many_tables():
            found = book_of(table)
            self.assertEqual(found, brute.stem_among(table[0], brute.meets(table)), table)
            self.assertIs(book_error(found), None)
            self.assertEqual(closed_lots(found), meets(table))

    def test_there_and_back(self):
        for book in many_books():
            self.assertEqual(book_of(table_of(book)), stem(book))
        for table in many_tables():
            self.assertEqual(table_of(book_of(table)), least_table(table))

    def test_what_follows_is_what_no_row_breaks(self):
        for table in brute.small_tables()[::7] + brute.random_tables(44, 25, sizes=(3, 4)):
            book = book_of(table)
            lots = brute.tuples_of(table[0])
            for rule in [(a, b) for a in lots for b in lots]:
                self.assertIs(follows(book, rule), breaking_row(table, rule) is None)

    def test_alike_tables_have_the_same_least_table(self):
        tables = brute.random_tables(45, 60, sizes=(3,), most_rows=4)
        for table in tables:
            for other in tables:
                self.assertIs(least_table(table) == least_table(other), same_meets(table, other))
                self.assertIs(book_of(table) == book_of(other), same_meets(table, other))

    def test_edges(self):
        self.assertEqual(book_of((0, ())), (0, ()))
        self.assertEqual(book_of((0, ((), ()))), (0, ()))
        self.assertEqual(book_of((10, ())), (10, (((), EVERYTHING),)))
        self.assertEqual(book_of((10, (EVERYTHING,) * 60)), (10, (((), EVERYTHING),)))
        self.assertEqual(book_of((2, ((),) * 60)), (2, (((0,), (1,)), ((1,), (0,)))))

    def test_sixty_rules_and_one_more(self):
        table = table_with_rules(60)
        self.assertEqual(len(table[1]), 60)
        found = book_of(table)
        self.assertEqual(len(found[1]), 60)
        self.assertEqual(closed_lots(found), meets(table))
        for many in (61, 62, 84):
            with self.assertRaises(TooMany) as caught:
                book_of(table_with_rules(many))
            self.assertEqual(caught.exception.limit, 60)


class LackingTest(unittest.TestCase):
    def test_by_its_words(self):
        for book in brute.small_books()[::9] + brute.random_books(46, 30, sizes=(2, 3)):
            for table in brute.small_tables()[::9] + brute.random_tables(47, 30, sizes=(2, 3)):
                if book[0] == table[0]:
                    self.check(book, table)

    def check(self, book, table):
        closed, found = closed_lots(book), meets(table)
        apart = [lot for lot in brute.tuples_of(book[0]) if (lot in closed) != (lot in found)]
        expected = ("book" if apart[0] in closed else "table", apart[0]) if apart else None
        self.assertEqual(lacking(book, table), expected)

    def test_edges(self):
        self.assertIs(lacking((0, ()), (0, ((),))), None)
        self.assertIs(lacking((10, (((), EVERYTHING),)), (10, ())), None)
        self.assertEqual(lacking((10, ()), (10, ())), ("book", ()))
        self.assertEqual(lacking((10, (((), EVERYTHING),)), (10, ((),))), ("table", ()))
        self.assertEqual(lacking((2, (((0,), (1,)),)), (2, ((), (0,), (1,)))), ("table", (0,)))
        self.assertEqual(lacking((2, ()), (2, ((), (1,)))), ("book", (0,)))
        for book in many_books():
            self.assertIs(lacking(book, table_of(book)), None)

    def test_unlike_sizes(self):
        for book, table in [((0, ()), (1, ())), ((10, ()), (9, ())), ((2, (((0,), (1,)),)), (3, ((0,),)))]:
            with self.assertRaises(Unfit):
                lacking(book, table)


class GreatestWithoutTest(unittest.TestCase):
    def test_by_its_words(self):
        for book in many_books():
            closed = brute.closed_sets(book)
            for thing in range(book[0]):
                expected = brute.lots_in_order(brute.greatest([lot for lot in closed if thing not in lot]))
                self.assertEqual(greatest_without(book, thing), expected, book)

    def test_barred_by_its_words(self):
        for book in many_books():
            rows = table_of(book)[1]
            for lot in closed_lots(book):
                expected = tuple(thing for thing in range(book[0]) if lot in greatest_without(book, thing))
                found = barred(book, lot)
                self.assertEqual(found, expected)
                self.assertIs(found != (), lot in rows)
                if found:
                    self.assertEqual(found, brute.as_lot(set(only_above(book, lot)) - set(lot)))

    def test_edges(self):
        self.assertEqual(greatest_without((1, ()), 0), ((),))
        self.assertEqual(greatest_without((1, (((), (0,)),)), 0), ())
        self.assertEqual(greatest_without((10, (((), EVERYTHING),)), 9), ())
        self.assertEqual(greatest_without((10, ()), 9), (EVERYTHING[:9],))
        self.assertEqual(barred((0, ()), ()), ())
        self.assertEqual(barred((10, ()), EVERYTHING), ())
        self.assertEqual(barred((10, ()), EVERYTHING[1:]), (0,))
        self.assertEqual(barred((10, ()), ()), ())


class HitsTest(unittest.TestCase):
    def choices(self):
        """Sizes, each with some lots of it, () among them in some."""
        found = [(0, ()), (0, ((),)), (0, ((),) * 1024), (1, ()), (1, ((0,),)), (1, ((), (0,)))]
        for size, rows in brute.small_tables()[::2] + brute.random_tables(48, 120):
            found.append((size, rows))
            found.append((size, tuple(row for row in rows if row)))
        return found

    def test_hits_by_their_words(self):
        for size, lots in self.choices():
            self.assertEqual(hits(size, lots), brute.hitting(size, lots), lots)

    def test_least_lots_by_their_words(self):
        for _, lots in self.choices():
            expected = brute.lots_in_order(brute.least([set(lot) for lot in lots]))
            self.assertEqual(least_lots(lots), expected)

    def test_hits_of_hits(self):
        for size, lots in self.choices():
            self.assertEqual(hits(size, hits(size, lots)), least_lots(lots))

    def test_again_and_in_another_order(self):
        for size, lots in self.choices():
            other = tuple(reversed(lots)) + lots
            self.assertEqual(hits(size, other), hits(size, lots))
            self.assertEqual(least_lots(other), least_lots(lots))

    def test_edges(self):
        for size in range(11):
            everything = tuple(range(size))
            self.assertEqual(hits(size, ()), ((),))
            self.assertEqual(hits(size, ((),)), ())
            self.assertEqual(hits(size, (everything, ())), ())
            self.assertEqual(hits(size, tuple((k,) for k in everything)), (everything,))
        self.assertEqual(hits(10, (EVERYTHING,)), tuple((k,) for k in range(10)))
        self.assertEqual(least_lots(()), ())
        self.assertEqual(least_lots(((),) * 3), ((),))
        self.assertEqual(least_lots((EVERYTHING, ())), ((),))

    def test_as_many_lots_as_may_be(self):
        lots = tuple(brute.tuples_of(10))
        self.assertEqual(len(lots), 1024)
        self.assertEqual(hits(10, lots), ())
        self.assertEqual(least_lots(lots), ((),))
        five = tuple(combinations(range(10), 5))
        many = (five * 5)[:1024]
        self.assertEqual(hits(10, many), tuple(combinations(range(10), 6)))
        self.assertEqual(least_lots(many), five)
        great = lots[386:] + lots[386:772]
        self.assertEqual(len(great), 1024)
        self.assertEqual(hits(10, great), tuple(combinations(range(10), 6)))
        self.assertEqual(least_lots(great), five)


class HitFaultTest(unittest.TestCase):
    def fault(self, lots, lot):
        for place, other in enumerate(lots):
            if not set(lot) & set(other):
                return ("missed", place)
        for thing in lot:
            if all((set(lot) - {thing}) & set(other) for other in lots):
                return ("spare", thing)
        return None

    def test_by_their_words(self):
        for size, lots in brute.small_tables()[::3] + brute.random_tables(49, 60, sizes=(2, 3, 4)):
            for lot in brute.tuples_of(size):
                expected = self.fault(lots, lot)
                self.assertEqual(hit_fault(size, lots, lot), expected)
                self.assertIs(expected is None, lot in hits(size, lots))
                self.check_own(size, lots, lot)

    def check_own(self, size, lots, lot):
        found = own_lots(size, lots, lot)
        if hit_fault(size, lots, lot) is not None:
            self.assertIs(found, None)
            return
        expected = tuple(
            [place for place, other in enumerate(lots) if set(other) & set(lot) == {thing}][0] for thing in lot
        )
        self.assertEqual(found, expected)

    def test_edges(self):
        self.assertIs(hit_fault(0, (), ()), None)
        self.assertEqual(own_lots(0, (), ()), ())
        self.assertEqual(hit_fault(0, ((),), ()), ("missed", 0))
        self.assertIs(own_lots(0, ((),), ()), None)
        self.assertEqual(hit_fault(3, (), (0, 2)), ("spare", 0))
        self.assertEqual(hit_fault(3, ((0,), (1,), ()), (0, 1)), ("missed", 2))
        self.assertEqual(hit_fault(3, ((1,), (1,)), (0, 1)), ("spare", 0))
        self.assertEqual(hit_fault(3, ((0,), (0,)), (0, 1)), ("spare", 1))
        self.assertEqual(own_lots(3, ((0, 1), (1,), (0,), (1,)), (0, 1)), (2, 1))
        lots = ((0, 1),) * 1023 + ((1,),)
        self.assertEqual(hit_fault(10, lots, (0,)), ("missed", 1023))
        self.assertEqual(own_lots(10, lots, (1,)), (0,))


class RulesForTest(unittest.TestCase):
    def test_by_their_words(self):
        for book in many_books():
            size = book[0]
            closed = brute.closed_sets(book)
            for thing in range(size):
                brings = [
                    lot for lot in brute.sets_of(size)
                    if thing not in lot and thing in brute.closure_among(size, closed, lot)
                ]
                expected = tuple((lot, (thing,)) for lot in brute.lots_in_order(brute.least(brings)))
                self.assertEqual(rules_for(book, thing), expected)

    def test_they_hit_what_the_greatest_lots_lack(self):
        for book in many_books():
            for thing in range(book[0]):
                lacks = tuple(
                    brute.as_lot(set(range(book[0])) - set(lot) - {thing}) for lot in greatest_without(book, thing)
                )
                self.assertEqual(rules_for(book, thing), tuple((lot, (thing,)) for lot in hits(book[0], lacks)))

    def test_edges(self):
        self.assertEqual(rules_for((1, ()), 0), ())
        self.assertEqual(rules_for((1, (((), (0,)),)), 0), (((), (0,)),))
        self.assertEqual(rules_for((10, ()), 9), ())
        self.assertEqual(rules_for((10, (((), EVERYTHING),) * 60), 9), (((), (9,)),))
        four = tuple(combinations(range(9), 4))[:60]
        self.assertEqual(rules_for((10, tuple((lot, (9,)) for lot in four)), 9), tuple((lot, (9,)) for lot in four))


class KeptByTest(unittest.TestCase):
    def kept(self, table, rule):
        return brute.irreducible_among(table[0], [lot for lot in brute.meets(table) if brute.keeps(lot, rule)])

    def test_by_its_words(self):
        for table in brute.small_tables()[::7] + brute.random_tables(50, 20, sizes=(3, 4)):
            lots = brute.tuples_of(table[0])
            for rule in [(a, b) for a in lots for b in lots]:
                found = kept_by(table, rule)
                self.assertEqual(found, (table[0], self.kept(table, rule)))

    def test_edges(self):
        self.assertEqual(kept_by((0, ((), ())), ((), ())), (0, ()))
        self.assertEqual(kept_by((10, ()), (EVERYTHING, ())), (10, ()))
        self.assertEqual(kept_by((10, ((),) * 60), ((), (0,))), (10, ()))
        self.assertEqual(kept_by((10, ((),) * 60), ((0,), ())), (10, ((),)))
        self.assertEqual(kept_by((2, ((1,), (0,), (1,))), ((), ())), (2, ((0,), (1,))))

    def test_sixty_rows_and_one_more(self):
        self.assertEqual(len(FIVES[1]), 60)
        rule = ((0, 1, 2, 3), (4,))
        expected = self.kept(FIVES, rule)
        self.assertEqual(len(expected), 60)
        self.assertEqual(kept_by(FIVES, rule), (10, expected))
        rule = ((0, 1, 2), (3,))
        self.assertEqual(len(self.kept(FIVES, rule)), 61)
        with self.assertRaises(TooMany) as caught:
            kept_by(FIVES, rule)
        self.assertEqual(caught.exception.limit, 60)


class WithLotTest(unittest.TestCase):
    def test_by_its_words(self):
        for book in brute.small_books()[::5] + brute.families(3) + brute.random_books(51, 20, sizes=(3, 4)):
            closed = brute.closed_sets(book)
            for lot in brute.tuples_of(book[0]):
                family = brute.meets_among(book[0], closed + [frozenset(lot)])
                self.assertEqual(with_lot(book, lot), brute.stem_among(book[0], family))

    def test_edges(self):
        self.assertEqual(with_lot((0, (((), ()),)), ()), (0, ()))
        self.assertEqual(with_lot((10, ()), EVERYTHING), (10, ()))
        self.assertEqual(with_lot((10, (((), EVERYTHING),)), EVERYTHING), (10, (((), EVERYTHING),)))
        self.assertEqual(with_lot((2, (((), (0, 1)),) * 60), (0,)), (2, (((), (0,)),)))
        self.assertEqual(with_lot((2, (((), (0, 1)),)), ()), (2, (((0,), (1,)), ((1,), (0,)))))

    def test_sixty_rules_and_one_more(self):
        first = (0, 1, 2, 3)
        book = book_with_first(60)
        found = with_lot(book, first)
        self.assertEqual(len(found[1]), 60)
        self.assertEqual(set(closed_lots(found)), set(closed_lots(book)) | {first})
        for many in (61, 65):
            self.assertIs(book_error(book_with_first(many)), None)
            with self.assertRaises(TooMany) as caught:
                with_lot(book_with_first(many), first)
            self.assertEqual(caught.exception.limit, 60)


class TimeTest(unittest.TestCase):
    def test_calls_at_the_bounds(self):
        books = brute.random_books(52, 2, sizes=(10,), most_rules=60, most_things=4) + [(10, ()), book_with_first(60)]
        for book in books:
            table = (10, tuple(closed_lots(book)[-60:]))
            for function, arguments in [
                (only_above, (book, EVERYTHING)), (barred, (book, EVERYTHING)), (greatest_without, (book, 0)),
                (rules_for, (book, 0)), (lacking, (book, table)), (with_lot, (book, EVERYTHING)),
                (kept_by, (table, ((0,), (1,)))), (table_of, (book,)), (book_of, (table,)),
            ]:
                assert_quick(self, function, *arguments)
        lots = tuple(brute.tuples_of(10))[:0:-1]
        for function, arguments in [(hits, (10, lots)), (hit_fault, (10, lots, EVERYTHING)), (least_lots, (lots,))]:
            assert_quick(self, function, *arguments)

    def test_many_nearly_closed_lots(self):
        self.assertGreater(len(near_pairs(10, meets_of(FIVES))), 100)
        book = (10, tuple((lot, EVERYTHING) for lot in tuple(combinations(range(10), 5))[:60]))
        assert_quick(self, book_of, FIVES)
        assert_quick(self, with_lot, book, (0, 1, 2, 3, 4))


if __name__ == "__main__":
    unittest.main()
