"""[A9]: texts, and how they are read."""

import unittest

from meetlots.errors import BadText
from meetlots.lots import all_lots
from meetlots.texts import book_text, lot_text, parse_book, parse_table, rule_text, table_text
from tests import brute
from tests.values import DEEP, ODD

NO_TEXTS = [None, True, False, 0, 3, [], ["3"], (), ("3",), (3, ()), {}, {"3": ""}, 10 ** 399, DEEP]
NO_SIZES = [
    "", "\n", "\n3", " 3", "3 ", "03", "00", "+3", "-0", "-1", "11", "12", "100", "3.0", "3\t", "three", "none",
    "0x3", "1_0", " ", "3 \n0 > 1", "03\n0 > 1", "9" * 400, "3,", "0 > 1",
]
NO_LOTS = [
    "", " ", "0 ", " 0", "0  1", "1 0", "0 0", "00", "01", "0 01", "+0", "-1", "3", "0 3", "10", "none ", " none",
    "None", "NONE", "none none", "none 0", "0 none", "0,1", "0,", "0\t1", "()", "(0,)", "0 > 1", "a", "0 a", "012",
    "0 1 ", "1 2 0", "0.0", "1_0",
]
NO_RULES = [
    "", " ", ">", " > ", "0", "none", "0 >", "0 > ", "> 0", " > 0", "0>1", "0 >1", "0> 1", "0  > 1", "0 >  1",
    " 0 > 1", "0 > 1 ", "0 > 1 > 2", "0 > > 1", "0 >> 1", "1 0 > 2", "0 > 2 1", "0 0 > 1", "0 > 1 1", "0 > 3",
    "3 > 0", "00 > 1", "0 > 01", "0 1", "0 -> 1", "0 < 1", "none > ", " > none", "None > 0", "0 none > 1",
    "none 0 > 1", "0 > none none", "0 > +1", "0 > -1", "0,1 > 2", "0  1 > 2", "0\t> 1", "a > b",
]


class WriteTest(unittest.TestCase):
    def test_lots(self):
        self.assertEqual(lot_text(()), "none")
        self.assertEqual(lot_text((0,)), "0")
        self.assertEqual(lot_text(tuple(range(10))), "0 1 2 3 4 5 6 7 8 9")

    def test_rules(self):
        self.assertEqual(rule_text(((), ())), "none > none")
        self.assertEqual(rule_text(((0, 2), (1,))), "0 2 > 1")
        self.assertEqual(rule_text(((9,), ())), "9 > none")

    def test_books(self):
        self.assertEqual(book_text((0, ())), "0")
        self.assertEqual(book_text((10, ())), "10")
        self.assertEqual(book_text((0, (((), ()),))), "0\nnone > none")
        self.assertEqual(book_text((2, (((1,), (0,)), ((0,), (1,)), ((1,), (0,))))), "2\n1 > 0\n0 > 1\n1 > 0")

    def test_tables(self):
        self.assertEqual(table_text((0, ())), "0")
        self.assertEqual(table_text((10, ())), "10")
        self.assertEqual(table_text((0, ((), ()))), "0\nnone\nnone")
        self.assertEqual(table_text((3, ((2,), (), (0, 1, 2), (2,)))), "3\n2\nnone\n0 1 2\n2")


class ReadTest(unittest.TestCase):
    def bad(self, parse, value, line):
        with self.assertRaises(BadText) as caught:
            parse(value)
        self.assertEqual(caught.exception.line, line, value)
        self.assertIs(type(caught.exception.line), int)

    def test_books_come_back(self):
        for book in brute.small_books() + brute.random_books(1, 200, sizes=(3, 5, 10), most_rules=20):
            self.assertEqual(parse_book(book_text(book)), book)

    def test_tables_come_back(self):
        for table in brute.small_tables() + brute.random_tables(2, 200, sizes=(3, 5, 10), most_rows=20):
            self.assertEqual(parse_table(table_text(table)), table)

    def test_all_sizes_and_lots(self):
        for size in range(11):
            self.assertEqual(parse_book(str(size)), (size, ()))
            self.assertEqual(parse_table(str(size)), (size, ()))
        for lot in all_lots(10):
            self.assertEqual(parse_table("10\n" + lot_text(lot)), (10, (lot,)))
        self.assertEqual(parse_book("3\n0 > 1"), (3, (((0,), (1,)),)))
        self.assertEqual(parse_book("0\nnone > none"), (0, (((), ()),)))

    def test_no_strings(self):
        for value in NO_TEXTS:
            self.bad(parse_book, value, 0)
            self.bad(parse_table, value, 0)

    def test_odd_values(self):
        for value in ODD:
            line = 1 if value == "3\n" else 0
            if value != "3":
                self.bad(parse_book, value, line)
                self.bad(parse_table, value, line)

    def test_sizes(self):
        for value in NO_SIZES:
            self.bad(parse_book, value, 0)
            self.bad(parse_table, value, 0)

    def test_rules(self):
        for text in NO_RULES:
            self.bad(parse_book, "3\n" + text, 1)
            self.bad(parse_book, "3\n0 > 1\nnone > 2\n" + text + "\n0 > 1", 3)

    def test_rows(self):
        for text in NO_LOTS:
            self.bad(parse_table, "3\n" + text, 1)
            self.bad(parse_table, "3\n0\nnone\n" + text + "\n0 1", 3)
            self.bad(parse_book, "3\n0 > " + text, 1)
            self.bad(parse_book, "3\n" + text + " > 0", 1)

    def test_things_beyond_the_size(self):
        self.bad(parse_book, "0\n0 > none", 1)
        self.bad(parse_table, "0\n0", 1)
        self.bad(parse_book, "2\n0 > 1\n0 > 2\n0 > 3", 2)
        self.bad(parse_table, "10\n9\n10", 2)

    def test_line_feeds(self):
        for value in ["3\n", "3\n\n0 > 1", "3\n\n"]:
            self.bad(parse_book, value, 1)
        for value in ["3\n", "3\n\n0", "3\n\n"]:
            self.bad(parse_table, value, 1)
        self.bad(parse_book, "3\n0 > 1\n", 2)
        self.bad(parse_table, "3\n0\n", 2)
        self.bad(parse_book, "3\n0 > 1\n\n0 > 1", 2)
        self.bad(parse_book, "3\n0 >\n1", 1)
        self.bad(parse_table, "3\n" + "\n" * 2998, 1)

    def test_as_many_as_may_be(self):
        book = (2, (((0,), (1,)),) * 60)
        self.assertEqual(parse_book(book_text(book)), book)
        self.bad(parse_book, book_text(book) + "\n0 > 1", 61)
        self.bad(parse_book, book_text(book) + "\n0 > 1\n0 > 7", 61)
        self.bad(parse_book, book_text(book) + "\n", 61)
        self.bad(parse_book, "2" + "\n0 > 1" * 5 + "\n0 > 2" + "\n0 > 1" * 60, 6)
        table = (2, ((0, 1),) * 60)
        self.assertEqual(parse_table(table_text(table)), table)
        self.bad(parse_table, table_text(table) + "\n0 1", 61)
        self.bad(parse_table, table_text(table) + "\n", 61)
        self.bad(parse_table, "2" + "\n0 1" * 59 + "\n2" + "\n0 1" * 60, 60)

    def test_just_the_texts_are_read(self):
        for text in ["2\n0 > 1", "2\nnone > 0 1\n0 > none"]:
            for place in range(len(text)):
                for sign in " \n01>n":
                    self.only_if_it_comes_back(parse_book, book_text, text[:place] + sign + text[place:])
                    self.only_if_it_comes_back(parse_book, book_text, text[:place] + sign + text[place + 1:])
                self.only_if_it_comes_back(parse_book, book_text, text[:place] + text[place + 1:])
        for text in ["2\n0 1\nnone\n1"]:
            for place in range(len(text)):
                for sign in " \n01>n":
                    self.only_if_it_comes_back(parse_table, table_text, text[:place] + sign + text[place:])
                    self.only_if_it_comes_back(parse_table, table_text, text[:place] + sign + text[place + 1:])
                self.only_if_it_comes_back(parse_table, table_text, text[:place] + text[place + 1:])

    def only_if_it_comes_back(self, parse, write, text):
        try:
            value = parse(text)
        except BadText:
            return
        self.assertEqual(write(value), text)


if __name__ == "__main__":
    unittest.main()
