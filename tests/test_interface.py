"""The interface: bounds, errors, and the names and arguments of all functions."""

import importlib
import inspect
import unittest

from meetlots import bounds, errors

BOUNDS = {
    "MAX_THINGS": 10, "MAX_RULES": 60, "MAX_ROWS": 60, "MAX_DIRECT": 1023, "MAX_LOTS": 1024,
    "MAX_WEIGHT": 10 ** 30, "MAX_NAMED": 7, "MAX_ORDERS": 1000, "MAX_POINTS": 7, "MAX_PLACE": 10 ** 30,
    "MAX_FEW": 12, "MAX_STANDS": 8, "MAX_EDITS": 40, "BATCH": 12,
}

ERRORS = {
    "Unfit": None, "TooMany": "limit", "BadText": "line", "NotClosed": "lot", "NotAlike": "lot",
    "NotMaker": "error", "BadReach": "error", "NotLearning": "paper", "NotOrder": "place", "TooFar": "count",
    "InRing": "thing", "NotSingle": "pair", "NoClimb": "lot", "BadBook": "error", "NoRule": "index",
    "NotRule": "value", "NotLot": "value", "NotThing": "value", "BadBatch": None, "Rejected": "index",
    "TooManyEdits": None, "NothingToUndo": None, "NothingToRedo": None, "NoVersion": "given", "Changed": "lot",
}

FUNCTIONS = {
    "lots": {
        "is_lot": ["size", "value"], "is_rule": ["size", "value"], "book_error": ["value"],
        "table_error": ["value"], "meet": ["size", "lots"], "join": ["lots"], "without": ["lot", "other"],
        "all_lots": ["size"], "in_order": ["lots"],
    },
    "texts": {
        "lot_text": ["lot"], "rule_text": ["rule"], "book_text": ["book"], "table_text": ["table"],
        "parse_book": ["value"], "parse_table": ["value"],
    },
    "books": {
        "closure": ["book", "lot"], "is_closed": ["book", "lot"], "rounds": ["book", "lot"],
        "closed_lots": ["book"], "follows": ["book", "rule"], "breaking": ["book", "rule"],
        "steps": ["book", "lot", "thing"], "steps_hold": ["book", "lot", "thing", "value"],
        "alike": ["book", "other"], "parting": ["book", "other"],
    },
    "leastbooks": {
        "spare": ["book"], "trimmed": ["book"], "nearly_closed": ["book"], "swell": ["book", "lot"],
        "stem": ["book"], "fewest": ["book"], "owners": ["book", "other"], "direct": ["book"],
        "first_far": ["size", "rules"],
    },
    "tables": {
        "meets": ["table"], "meet_of": ["table", "places"], "shared": ["table", "lot"],
        "is_meet": ["table", "lot"], "closed_pairs": ["table"], "spare_rows": ["table"],
        "least_table": ["table"], "breaking_row": ["table", "rule"], "same_meets": ["table", "other"],
        "parting_meet": ["table", "other"],
    },
}

BOOK = (3, (((0,), (1,)), ((1,), (2,))))
TABLE = (3, ((0, 1), (1, 2), (1,)))

BY_NAME = [
    ("lots", "is_lot", {"size": 2, "value": (0, 1)}), ("lots", "is_rule", {"size": 2, "value": ((), (1,))}),
    ("lots", "book_error", {"value": BOOK}), ("lots", "table_error", {"value": TABLE}),
    ("lots", "meet", {"size": 3, "lots": ((0, 1), (1,))}), ("lots", "join", {"lots": ((0,), (2,))}),
    ("lots", "without", {"lot": (0, 1), "other": (1, 2)}), ("lots", "all_lots", {"size": 2}),
    ("lots", "in_order", {"lots": ((1,), ())}),
    ("texts", "lot_text", {"lot": (0, 1)}), ("texts", "rule_text", {"rule": ((0,), ())}),
    ("texts", "book_text", {"book": BOOK}), ("texts", "table_text", {"table": TABLE}),
    ("texts", "parse_book", {"value": "2\n0 > 1"}), ("texts", "parse_table", {"value": "2\n0 1"}),
    ("books", "closure", {"book": BOOK, "lot": (1,)}), ("books", "is_closed", {"book": BOOK, "lot": (1,)}),
    ("books", "rounds", {"book": BOOK, "lot": (0,)}), ("books", "closed_lots", {"book": BOOK}),
    ("books", "follows", {"book": BOOK, "rule": ((0,), (2,))}),
    ("books", "breaking", {"book": BOOK, "rule": ((2,), (0,))}),
    ("books", "steps", {"book": BOOK, "lot": (0,), "thing": 2}),
    ("books", "steps_hold", {"book": BOOK, "lot": (0,), "thing": 2, "value": (0, 1)}),
    ("books", "alike", {"book": BOOK, "other": (3, ())}), ("books", "parting", {"book": BOOK, "other": (3, ())}),
    ("leastbooks", "spare", {"book": BOOK}), ("leastbooks", "trimmed", {"book": BOOK}),
    ("leastbooks", "nearly_closed", {"book": BOOK}), ("leastbooks", "swell", {"book": BOOK, "lot": (0, 1)}),
    ("leastbooks", "stem", {"book": BOOK}), ("leastbooks", "fewest", {"book": BOOK}),
    ("leastbooks", "owners", {"book": BOOK, "other": BOOK}), ("leastbooks", "direct", {"book": BOOK}),
    ("leastbooks", "first_far", {"size": 3, "rules": BOOK[1]}),
    ("tables", "meets", {"table": TABLE}), ("tables", "meet_of", {"table": TABLE, "places": (0, 1)}),
    ("tables", "shared", {"table": TABLE, "lot": (1,)}), ("tables", "is_meet", {"table": TABLE, "lot": (0,)}),
    ("tables", "closed_pairs", {"table": TABLE}), ("tables", "spare_rows", {"table": TABLE}),
    ("tables", "least_table", {"table": TABLE}),
    ("tables", "breaking_row", {"table": TABLE, "rule": ((0,), (2,))}),
    ("tables", "same_meets", {"table": TABLE, "other": (3, ())}),
    ("tables", "parting_meet", {"table": TABLE, "other": (3, ())}),
]


def function(file, name):
    return getattr(importlib.import_module("meetlots." + file), name)


class BoundsTest(unittest.TestCase):
    def test_all_bounds(self):
        for name, worth in BOUNDS.items():
            with self.subTest(name=name):
                self.assertEqual(getattr(bounds, name), worth)
                self.assertIs(type(getattr(bounds, name)), int)


class ErrorsTest(unittest.TestCase):
    def test_the_root(self):
        self.assertEqual(errors.MeetError.__bases__, (ValueError,))

    def test_each_is_directly_under_the_root(self):
        for name in ERRORS:
            with self.subTest(name=name):
                self.assertEqual(getattr(errors, name).__bases__, (errors.MeetError,))
                self.assertEqual(getattr(errors, name).__module__, "meetlots.errors")

    def test_each_keeps_what_it_was_made_with(self):
        for name, argument in ERRORS.items():
            made = getattr(errors, name)
            for value in (None, 0, True, "word", (0, 1), [1, [2]], {"a": ()}, 10 ** 399):
                if argument is not None:
                    with self.subTest(name=name, value=value):
                        self.assertIs(getattr(made(value), argument), value)
                        self.assertIs(getattr(made(**{argument: value}), argument), value)
                        self.assertEqual(list(vars(made(value))), [argument])

    def test_those_without_arguments(self):
        for name, argument in ERRORS.items():
            if argument is None:
                with self.subTest(name=name):
                    with self.assertRaises(errors.MeetError):
                        raise getattr(errors, name)()
                    with self.assertRaises(TypeError):
                        getattr(errors, name)(1)

    def test_no_error_is_missing_or_too_many(self):
        made = [name for name, item in vars(errors).items() if inspect.isclass(item)]
        self.assertEqual(sorted(made), sorted(list(ERRORS) + ["MeetError"]))


class FunctionsTest(unittest.TestCase):
    def test_names_files_and_arguments(self):
        for file, functions in FUNCTIONS.items():
            for name, arguments in functions.items():
                with self.subTest(file=file, name=name):
                    found = function(file, name)
                    self.assertEqual(found.__module__, "meetlots." + file)
                    told = inspect.signature(found).parameters.values()
                    self.assertEqual([argument.name for argument in told], arguments)
                    for argument in told:
                        self.assertEqual(argument.kind, inspect.Parameter.POSITIONAL_OR_KEYWORD)
                        self.assertIs(argument.default, inspect.Parameter.empty)

    def test_arguments_by_name_or_by_place(self):
        self.assertEqual(
            sorted((file, name) for file, name, _ in BY_NAME),
            sorted((file, name) for file, functions in FUNCTIONS.items() for name in functions),
        )
        for file, name, arguments in BY_NAME:
            with self.subTest(file=file, name=name):
                found = function(file, name)
                by_name = found(**dict(reversed(list(arguments.items()))))
                self.assertEqual(by_name, found(*arguments.values()))
                self.assertEqual(repr(by_name), repr(found(**arguments)))

    def test_sequences_are_tuples(self):
        for file, name, arguments in BY_NAME:
            with self.subTest(file=file, name=name):
                self.assert_plain(function(file, name)(**arguments))

    def assert_plain(self, value):
        self.assertIn(type(value), (tuple, int, str, bool, type(None)))
        if isinstance(value, tuple):
            for item in value:
                self.assert_plain(item)


if __name__ == "__main__":
    unittest.main()
