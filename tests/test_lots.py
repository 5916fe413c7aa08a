"""[A3] to [A8]: integers, sizes, lots, rules, books, tables, and what lots have in common."""

import copy
import unittest

from meetlots.books import steps_hold
from meetlots.errors import BadText
from meetlots.lots import all_lots, book_error, in_order, is_lot, is_rule, join, meet, table_error, without
from meetlots.texts import parse_book, parse_table
from tests import brute
from tests.values import DEEP, ODD

NO_PAIRS = [
    None, True, 3, "3", "", [3, ()], {3: ()}, {"size": 3}, (), (3,), (3, (), ()), ((3, ()),), (3, ()) + ((),),
    [[3, ()]], DEEP,
]
NO_SIZES = [-1, 11, 10 ** 399, -(10 ** 399), True, False, None, "3", (3,), [3], {}, ()]


class IsLotTest(unittest.TestCase):
    def test_all_lots_of_a_size(self):
        for size in range(11):
            for lot in brute.tuples_of(size):
                self.assertIs(is_lot(size, lot), True)

    def test_edges_of_the_size(self):
        self.assertIs(is_lot(0, ()), True)
        self.assertIs(is_lot(0, (0,)), False)
        self.assertIs(is_lot(3, (2,)), True)
        self.assertIs(is_lot(3, (3,)), False)
        self.assertIs(is_lot(10, tuple(range(10))), True)
        self.assertIs(is_lot(10, tuple(range(11))), False)
        self.assertIs(is_lot(10, (10,)), False)
        self.assertIs(is_lot(10, (-1,)), False)

    def test_ascending_and_each_once(self):
        self.assertIs(is_lot(3, (0, 2)), True)
        for value in [(2, 0), (1, 1), (0, 1, 1), (0, 2, 1), (0, 0)]:
            self.assertIs(is_lot(3, value), False, value)

    def test_no_tuples_of_integers(self):
        for value in [[], [0], [0, 1], {}, {0: 1}, None, 0, "", "0", "01", (True,), (False, 1), (0, True),
                      (0, None), (0, "1"), ("0",), ((0,),), (0, (1,)), (0, [1]), ([],), ({},), (10 ** 399,), DEEP]:
            self.assertIs(is_lot(10, value), False, value)

    def test_odd_values(self):
        for value in ODD:
            for size in (0, 2, 10):
                expected = type(value) is tuple and all(type(x) is int for x in value) \
                    and value in brute.tuples_of(size)
                self.assertIs(is_lot(size, value), expected, value)


class IsRuleTest(unittest.TestCase):
    def test_all_rules_of_small_sizes(self):
        for size in range(4):
            for ahead in brute.tuples_of(size):
                for behind in brute.tuples_of(size):
                    self.assertIs(is_rule(size, (ahead, behind)), True)

    def test_edges(self):
        self.assertIs(is_rule(0, ((), ())), True)
        self.assertIs(is_rule(10, (tuple(range(10)), ())), True)
        self.assertIs(is_rule(2, ((0,), (2,))), False)
        self.assertIs(is_rule(2, ((2,), (0,))), False)

    def test_wrong_values(self):
        for value in [None, True, 0, "0 > 1", (), ((),), ((), (), ()), [(), ()], ((), []), ([], ()), {0: (), 1: ()},
                      ((True,), ()), ((), (True,)), ((0,), None), (None, (0,)), ((1, 0), ()), ((), (1, 1)),
                      (0, 1), ("", ""), (((),), ()), DEEP, "ab", [(0,), (1,)], {(): ()}]:
            self.assertIs(is_rule(2, value), False, value)

    def test_odd_values(self):
        for value in ODD:
            self.assertIs(is_rule(10, value), False, value)


class BookErrorTest(unittest.TestCase):
    def test_books(self):
        everything = tuple(range(10))
        for value in [(0, ()), (10, ()), (0, (((), ()),)), (3, (((0,), (1,)),) * 2), (10, ((everything, ()),) * 60),
                      (10, (((), everything),) * 60)]:
            self.assertIs(book_error(value), None, value)

    def test_size(self):
        for value in NO_PAIRS:
            self.assertEqual(book_error(value), "size", value)
        for size in NO_SIZES:
            self.assertEqual(book_error((size, ())), "size", size)
            self.assertEqual(book_error((size, [])), "size", size)

    def test_rules(self):
        for rules in [[], None, {}, "", 0, True, [((), ())], (((), ()),) * 61, (None,) * 61, (None,) * 3000]:
            self.assertEqual(book_error((3, rules)), "rules", rules)

    def test_places(self):
        rule = ((0,), (1,))
        self.assertEqual(book_error((2, (rule, ((0,), (2,)), None))), 1)
        self.assertEqual(book_error((2, (None,) * 60)), 0)
        self.assertEqual(book_error((2, (rule,) * 59 + ([(0,), (1,)],))), 59)
        self.assertIs(type(book_error((2, (None,)))), int)
        for value in [None, True, [], [(), ()], ((),), ((True,), ()), ((), ((),)), "0 > 1", {}, DEEP]:
            self.assertEqual(book_error((2, (rule, value))), 1, value)

    def test_odd_values(self):
        for value in ODD:
            # Some of them are pairs of 0, a size, and of what is no tuple.
            sized = type(value) is tuple and len(value) == 2 and type(value[0]) is int
            self.assertEqual(book_error(value), "rules" if sized else "size", value)
            self.assertEqual(table_error(value), "rows" if sized else "size", value)
            self.assertEqual(book_error((2, (value,))), 0, value)


class TableErrorTest(unittest.TestCase):
    def test_tables(self):
        for value in [(0, ()), (10, ()), (0, ((), ())), (3, ((0, 2),) * 60), (10, (tuple(range(10)),))]:
            self.assertIs(table_error(value), None, value)

    def test_size(self):
        for value in NO_PAIRS:
            self.assertEqual(table_error(value), "size", value)
        for size in NO_SIZES:
            self.assertEqual(table_error((size, ())), "size", size)
            self.assertEqual(table_error((size, [])), "size", size)

    def test_rows(self):
        for rows in [[], None, {}, "", 0, True, [()], ((),) * 61, (None,) * 61]:
            self.assertEqual(table_error((3, rows)), "rows", rows)

    def test_places(self):
        self.assertEqual(table_error((2, ((0,), (2,), None))), 1)
        self.assertEqual(table_error((2, ((0, 1),) * 59 + ([0],))), 59)
        for value in [None, True, [], [0], (True,), ((0,), (1,)), ((),), "0", {}, (1, 0), (0, 0), (-1,), DEEP]:
            self.assertEqual(table_error((2, ((), value))), 1, value)

    def test_a_book_is_no_table(self):
        self.assertEqual(table_error((2, (((0,), (1,)),))), 0)
        self.assertEqual(book_error((2, ((0, 1),))), 0)


class MeetJoinTest(unittest.TestCase):
    def test_of_no_lots(self):
        self.assertEqual(meet(0, ()), ())
        self.assertEqual(meet(10, ()), tuple(range(10)))
        self.assertEqual(join(()), ())

    def test_of_few_lots(self):
        for size in range(4):
            lots = brute.tuples_of(size)
            for a in lots:
                self.assertEqual(meet(size, (a,)), a)
                self.assertEqual(join((a,)), a)
                for b in lots:
                    self.assertEqual(meet(size, (a, b)), brute.as_lot(set(a) & set(b)))
                    self.assertEqual(join((a, b)), brute.as_lot(set(a) | set(b)))
                    self.assertEqual(without(a, b), brute.as_lot(set(a) - set(b)))
                    self.assertEqual(meet(size, (a, b, lots[-1])), brute.as_lot(set(a) & set(b)))
                    self.assertEqual(join((a, b, ())), brute.as_lot(set(a) | set(b)))

    def test_of_great_lots(self):
        everything = tuple(range(10))
        self.assertEqual(meet(10, (everything, (0, 9), (9,))), (9,))
        self.assertEqual(join(((0, 9), (3,), ())), (0, 3, 9))
        self.assertEqual(without(everything, (0, 5, 9)), (1, 2, 3, 4, 6, 7, 8))
        self.assertEqual(without((), everything), ())
        self.assertEqual(without(everything, ()), everything)


class OrderTest(unittest.TestCase):
    def test_all_lots(self):
        for size in range(11):
            self.assertEqual(all_lots(size), tuple(brute.tuples_of(size)))
            self.assertEqual(len(all_lots(size)), 2 ** size)

    def test_in_order(self):
        self.assertEqual(in_order(()), ())
        self.assertEqual(in_order(((),)), ((),))
        self.assertEqual(in_order(((9,), (0, 1), (8,), (9,), (0, 1))), ((8,), (9,), (0, 1)))
        everything = all_lots(5)
        self.assertEqual(in_order(tuple(reversed(everything)) * 2), everything)
        self.assertEqual(in_order(tuple(sorted(everything))), everything)


class UnchangedTest(unittest.TestCase):
    def test_what_is_passed_stays(self):
        values = [[3, []], (3, [((0,), (1,))]), (3, ([(0,), (1,)],)), {0: [1]}, [[0], {1: [2]}], (3, ([0], {}))]
        kept = copy.deepcopy(values)
        for value in values:
            is_lot(3, value)
            is_rule(3, value)
            book_error(value)
            table_error(value)
            steps_hold((3, ()), (0,), 1, value)
            for parse in (parse_book, parse_table):
                with self.assertRaises(BadText):
                    parse(value)
        self.assertEqual(values, kept)


if __name__ == "__main__":
    unittest.main()
