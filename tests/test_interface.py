"""The interface: bounds, errors, and the names and arguments of all functions."""

import importlib
import inspect
import unittest

from meetlots import bounds, errors
from meetlots.boards import Board, KeptBoard
from tests.values import ODD

BOUNDS = {
    "MAX_THINGS": 10, "MAX_RULES": 60, "MAX_ROWS": 60, "MAX_DIRECT": 1023, "MAX_LOTS": 1024,
    "MAX_WEIGHT": 10 ** 30, "MAX_NAMED": 7, "MAX_ORDERS": 1000, "MAX_POINTS": 7, "MAX_PLACE": 10 ** 30,
    "MAX_FEW": 12, "MAX_STANDS": 8, "MAX_EDITS": 40, "BATCH": 12,
}

ERRORS = {
    "Unfit": None, "TooMany": "limit", "BadText": "line", "NotClosed": "lot", "NotAlike": "lot",
    "NotMaker": "error", "BadReach": "error", "NotLearning": "paper", "NotOrder": "place", "TooFar": "count",
    "InRing": "thing", "NotSingle": "pair", "NoClimb": "lot", "BadBook": "error", "NoRule": "index",
    "NotRule": "value", "NotLot": "value", "NotThing": "value", "BadBatch": None, "Rejected": "index",
    "TooManyEdits": None, "NothingToUndo": None, "NothingToRedo": None, "NoVersion": "given", "Changed": "lot",
}

FUNCTIONS = {
    "lots": {
        "is_lot": ["size", "value"], "is_rule": ["size", "value"], "book_error": ["value"],
        "table_error": ["value"], "meet": ["size", "lots"], "join": ["lots"], "without": ["lot", "other"],
        "all_lots": ["size"], "in_order": ["lots"],
    },
    "texts": {
        "lot_text": ["lot"], "rule_text": ["rule"], "book_text": ["book"], "table_text": ["table"],
        "parse_book": ["value"], "parse_table": ["value"],
    },
    "books": {
        "closure": ["book", "lot"], "is_closed": ["book", "lot"], "rounds": ["book", "lot"],
        "closed_lots": ["book"], "follows": ["book", "rule"], "breaking": ["book", "rule"],
        "steps": ["book", "lot", "thing"], "steps_hold": ["book", "lot", "thing", "value"],
        "alike": ["book", "other"], "parting": ["book", "other"],
    },
    "leastbooks": {
        "spare": ["book"], "trimmed": ["book"], "nearly_closed": ["book"], "swell": ["book", "lot"],
        "stem": ["book"], "fewest": ["book"], "owners": ["book", "other"], "direct": ["book"],
        "first_far": ["size", "rules"],
    },
    "tables": {
        "meets": ["table"], "meet_of": ["table", "places"], "shared": ["table", "lot"],
        "is_meet": ["table", "lot"], "closed_pairs": ["table"], "spare_rows": ["table"],
        "least_table": ["table"], "breaking_row": ["table", "rule"], "same_meets": ["table", "other"],
        "parting_meet": ["table", "other"],
    },
    "turns": {
        "table_of": ["book"], "only_above": ["book", "lot"], "book_of": ["table"], "lacking": ["book", "table"],
        "greatest_without": ["book", "thing"], "barred": ["book", "lot"], "hits": ["size", "lots"],
        "least_lots": ["lots"], "hit_fault": ["size", "lots", "lot"], "own_lots": ["size", "lots", "lot"],
        "rules_for": ["book", "thing"], "kept_by": ["table", "rule"], "with_lot": ["book", "lot"],
    },
    "makers": {
        "makers": ["book", "lot"], "keys": ["book"], "next_below": ["book", "lot"], "nonkeys": ["book"],
        "maker_error": ["book", "lot", "value"], "spare_thing": ["book", "lot"], "free_lots": ["book"],
        "needed": ["book", "lot"], "never": ["book", "lot"], "maker_counts": ["book"],
        "left_by": ["book", "lot", "order"], "order_for": ["book", "lot", "maker"],
        "cheapest_maker": ["book", "lot", "weights"],
    },
    "pairs": {
        "both": ["book", "other"], "either": ["book", "other"], "beside": ["book", "other"],
        "part": ["book", "lot"], "above": ["book", "lot"],
    },
    "maps": {
        "is_map": ["size", "other_size", "value"], "led": ["lead", "lot"], "source": ["lead", "lot"],
        "after": ["lead", "further"], "is_smooth": ["book", "other", "lead"], "rough": ["book", "other", "lead"],
        "rough_rule": ["book", "other", "lead"], "pulled": ["other", "lead"],
        "pushed": ["book", "other_size", "lead"],
    },
    "renames": {
        "renamed": ["book", "naming"], "renaming": ["book", "other"], "sames": ["book"], "normal": ["book"],
    },
    "singles": {
        "is_single": ["book"], "apart": ["book"], "reach": ["book"], "reach_error": ["size", "value"],
        "of_reach": ["size", "value"], "loosened": ["book"],
    },
    "learning": {
        "is_learning": ["book"], "clash": ["book"], "ends": ["book", "lot"], "is_order": ["book", "value"],
        "order_count": ["book"], "orders": ["book"], "nth_order": ["book", "place"],
        "order_place": ["book", "order"], "ways": ["book", "thing"],
    },
    "rings": {"rings": ["book"], "book_of_rings": ["size", "rings"], "ring_error": ["size", "value"]},
    "spreads": {
        "spread": ["book"], "spread_holds": ["book", "value"], "fewest_orders": ["book"],
        "orders_hold": ["book", "value"], "made_of_orders": ["size", "orders"],
    },
    "hulls": {
        "on_line": ["places"], "in_ways": ["size", "edges"], "in_order_of": ["size", "pairs"],
        "below": ["size", "pairs"], "on_plane": ["points"],
    },
    "numbers": {
        "greatest_free": ["book"], "helly_lots": ["book"], "helly_holds": ["book", "value"],
        "few_apart": ["book", "lots"], "carried": ["book", "lot", "thing"], "few_makers": ["book"],
        "parted": ["book", "lot"], "parted_holds": ["book", "lot", "value"], "greatest_whole": ["book"],
        "numbers": ["book"],
    },
    "takings": {
        "takings": ["book", "lot", "most"], "heap": ["book", "lot", "most"], "heaps": ["book", "most"],
        "right_takings": ["book", "lot", "most"], "sum_heap": ["stands"], "right_in_sum": ["stands"],
        "prize_turns": ["book", "lot", "thing"], "right_ends": ["book", "lot", "thing"],
        "prize_play": ["book", "lot", "thing"],
    },
    "weighing": {
        "weight": ["weights", "lot"], "heaviest": ["book", "weights"], "all_heaviest": ["book", "weights"],
        "lightest_over": ["book", "weights", "lot"], "leeway": ["book", "weights", "thing"],
        "heavy_paper": ["book", "weights"], "heavy_bound": ["book", "weights", "paper"],
        "heavy_paper_holds": ["book", "weights", "value"],
    },
    "building": {
        "stuck": ["book"], "is_climb": ["book", "value"], "climb_count": ["book"], "least_worst": ["book", "costs"],
        "best_climb": ["book", "costs"], "best_climb_holds": ["book", "costs", "value"],
        "worst_at": ["book", "costs", "lot"], "worst_lot": ["book", "costs"], "least_sums": ["book", "costs"],
        "least_sum": ["book", "costs"], "cheap_climb": ["book", "costs"],
        "cheap_climb_holds": ["book", "costs", "value"], "sums_hold": ["book", "costs", "value"],
    },
}

# The methods that stand in each class itself, with their arguments behind the first one.
EDITS = {
    "add": ["rule"], "drop": ["index"], "put": ["index", "rule"], "have": ["thing"], "lose": ["thing"], "grow": [],
    "tidy": [], "batch": ["edits"], "undo": [], "redo": [],
}
CLASSES = {
    ("boards", "Board"): {
        "__init__": ["value"], "__len__": [], "__getitem__": ["index"], "__contains__": ["value"], "__iter__": [],
        "__str__": [], "__eq__": ["other"], "closure": [], "rounds": [], "spare": [], "closed": ["lot"],
        "steps": ["thing"], "follows": ["rule"], "breaking": ["rule"], **EDITS, "at": ["version"], "news": [],
        "copy": [], "attempt": ["work"],
    },
    ("boards", "KeptBoard"): {"__init__": ["value"], "copy": []},
    ("shells", "Shell"): {"__init__": [], "say": ["line"]},
}
PROPERTIES = ["book", "lot", "version"]

BOOK = (3, (((0,), (1,)), ((1,), (2,))))
LINE = (3, (((0, 2), (1,)),))
COSTS = ((0, 1, 5), (1, 1, 1), (0, 4, 6))
TABLE = (3, ((0, 1), (1, 2), (1,)))

BY_NAME = [
    ("lots", "is_lot", {"size": 2, "value": (0, 1)}), ("lots", "is_rule", {"size": 2, "value": ((), (1,))}),
    ("lots", "book_error", {"value": BOOK}), ("lots", "table_error", {"value": TABLE}),
    ("lots", "meet", {"size": 3, "lots": ((0, 1), (1,))}), ("lots", "join", {"lots": ((0,), (2,))}),
    ("lots", "without", {"lot": (0, 1), "other": (1, 2)}), ("lots", "all_lots", {"size": 2}),
    ("lots", "in_order", {"lots": ((1,), ())}),
    ("texts", "lot_text", {"lot": (0, 1)}), ("texts", "rule_text", {"rule": ((0,), ())}),
    ("texts", "book_text", {"book": BOOK}), ("texts", "table_text", {"table": TABLE}),
    ("texts", "parse_book", {"value": "2\n0 > 1"}), ("texts", "parse_table", {"value": "2\n0 1"}),
    ("books", "closure", {"book": BOOK, "lot": (1,)}), ("books", "is_closed", {"book": BOOK, "lot": (1,)}),
    ("books", "rounds", {"book": BOOK, "lot": (0,)}), ("books", "closed_lots", {"book": BOOK}),
    ("books", "follows", {"book": BOOK, "rule": ((0,), (2,))}),
    ("books", "breaking", {"book": BOOK, "rule": ((2,), (0,))}),
    ("books", "steps", {"book": BOOK, "lot": (0,), "thing": 2}),
    ("books", "steps_hold", {"book": BOOK, "lot": (0,), "thing": 2, "value": (0, 1)}),
    ("books", "alike", {"book": BOOK, "other": (3, ())}), ("books", "parting", {"book": BOOK, "other": (3, ())}),
    ("leastbooks", "spare", {"book": BOOK}), ("leastbooks", "trimmed", {"book": BOOK}),
    ("leastbooks", "nearly_closed", {"book": BOOK}), ("leastbooks", "swell", {"book": BOOK, "lot": (0, 1)}),
    ("leastbooks", "stem", {"book": BOOK}), ("leastbooks", "fewest", {"book": BOOK}),
    ("leastbooks", "owners", {"book": BOOK, "other": BOOK}), ("leastbooks", "direct", {"book": BOOK}),
    ("leastbooks", "first_far", {"size": 3, "rules": BOOK[1]}),
    ("tables", "meets", {"table": TABLE}), ("tables", "meet_of", {"table": TABLE, "places": (0, 1)}),
    ("tables", "shared", {"table": TABLE, "lot": (1,)}), ("tables", "is_meet", {"table": TABLE, "lot": (0,)}),
    ("tables", "closed_pairs", {"table": TABLE}), ("tables", "spare_rows", {"table": TABLE}),
    ("tables", "least_table", {"table": TABLE}),
    ("tables", "breaking_row", {"table": TABLE, "rule": ((0,), (2,))}),
    ("tables", "same_meets", {"table": TABLE, "other": (3, ())}),
    ("tables", "parting_meet", {"table": TABLE, "other": (3, ())}),
    ("turns", "table_of", {"book": BOOK}), ("turns", "only_above", {"book": BOOK, "lot": (2,)}),
    ("turns", "book_of", {"table": TABLE}), ("turns", "lacking", {"book": BOOK, "table": TABLE}),
    ("turns", "greatest_without", {"book": BOOK, "thing": 0}), ("turns", "barred", {"book": BOOK, "lot": (2,)}),
    ("turns", "hits", {"size": 3, "lots": ((0, 1), (1, 2))}), ("turns", "least_lots", {"lots": ((0, 1), (1,))}),
    ("turns", "hit_fault", {"size": 3, "lots": ((0, 1), (1, 2)), "lot": (0,)}),
    ("turns", "own_lots", {"size": 3, "lots": ((0, 1), (1, 2)), "lot": (0, 2)}),
    ("turns", "rules_for", {"book": BOOK, "thing": 2}), ("turns", "kept_by", {"table": TABLE, "rule": ((0,), (2,))}),
    ("turns", "with_lot", {"book": BOOK, "lot": (0, 1)}),
    ("makers", "makers", {"book": BOOK, "lot": (1, 2)}), ("makers", "keys", {"book": BOOK}),
    ("makers", "next_below", {"book": BOOK, "lot": (1,)}), ("makers", "nonkeys", {"book": BOOK}),
    ("makers", "maker_error", {"book": BOOK, "lot": (1,), "value": (2,)}),
    ("makers", "spare_thing", {"book": BOOK, "lot": (0, 2)}), ("makers", "free_lots", {"book": BOOK}),
    ("makers", "needed", {"book": BOOK, "lot": (1, 2)}), ("makers", "never", {"book": BOOK, "lot": (1, 2)}),
    ("makers", "maker_counts", {"book": BOOK}),
    ("makers", "left_by", {"book": BOOK, "lot": (1,), "order": (2, 1)}),
    ("makers", "order_for", {"book": BOOK, "lot": (1,), "maker": (1,)}),
    ("makers", "cheapest_maker", {"book": BOOK, "lot": (1,), "weights": (3, 2, 1)}),
    ("pairs", "both", {"book": BOOK, "other": (3, (((2,), (0,)),))}),
    ("pairs", "either", {"book": BOOK, "other": (3, (((0,), (2,)),))}),
    ("pairs", "beside", {"book": BOOK, "other": (2, (((1,), (0,)),))}),
    ("pairs", "part", {"book": BOOK, "lot": (0, 2)}), ("pairs", "above", {"book": BOOK, "lot": (1,)}),
    ("maps", "is_map", {"size": 2, "other_size": 3, "value": (2, 0)}),
    ("maps", "led", {"lead": (2, 0), "lot": (1,)}), ("maps", "source", {"lead": (2, 0), "lot": (0, 1)}),
    ("maps", "after", {"lead": (2, 0), "further": (1, 1, 0)}),
    ("maps", "is_smooth", {"book": BOOK, "other": (4, ()), "lead": (3, 1, 3)}),
    ("maps", "rough", {"book": BOOK, "other": (4, ()), "lead": (3, 1, 3)}),
    ("maps", "rough_rule", {"book": BOOK, "other": (4, ()), "lead": (3, 1, 3)}),
    ("maps", "pulled", {"other": BOOK, "lead": (2, 0)}),
    ("maps", "pushed", {"book": BOOK, "other_size": 4, "lead": (3, 1, 3)}),
    ("renames", "renamed", {"book": BOOK, "naming": (2, 0, 1)}),
    ("renames", "renaming", {"book": BOOK, "other": (3, (((2,), (0,)), ((0,), (1,))))}),
    ("renames", "sames", {"book": BOOK}), ("renames", "normal", {"book": BOOK}),
    ("singles", "is_single", {"book": BOOK}), ("singles", "apart", {"book": (3, (((0, 1), (2,)),))}),
    ("singles", "reach", {"book": BOOK}), ("singles", "reach_error", {"size": 1, "value": ((), ((),))}),
    ("singles", "of_reach", {"size": 2, "value": ((), ((0, 1), (1,)))}), ("singles", "loosened", {"book": BOOK}),
    ("learning", "is_learning", {"book": BOOK}), ("learning", "clash", {"book": (2, (((0,), (1,)), ((1,), (0,))))}),
    ("learning", "ends", {"book": BOOK, "lot": (1, 2)}), ("learning", "is_order", {"book": BOOK, "value": (0, 1, 2)}),
    ("learning", "order_count", {"book": BOOK}), ("learning", "orders", {"book": (3, (((0,), (2,)),))}),
    ("learning", "nth_order", {"book": (3, (((0,), (2,)),)), "place": 1}),
    ("learning", "order_place", {"book": (3, (((0,), (2,)),)), "order": (0, 2, 1)}),
    ("learning", "ways", {"book": BOOK, "thing": 2}),
    ("rings", "rings", {"book": BOOK}), ("rings", "book_of_rings", {"size": 3, "rings": ((2, (0, 1)),)}),
    ("rings", "ring_error", {"size": 3, "value": ((2, (0,)), (2, (0, 1)))}),
    ("spreads", "spread", {"book": LINE}), ("spreads", "spread_holds", {"book": LINE, "value": ((0,), (1, 2))}),
    ("spreads", "fewest_orders", {"book": LINE}),
    ("spreads", "orders_hold", {"book": LINE, "value": ((0, 1, 2), (2, 1, 0))}),
    ("spreads", "made_of_orders", {"size": 3, "orders": ((0, 1, 2), (2, 1, 0))}),
    ("hulls", "on_line", {"places": (5, 1, 3)}), ("hulls", "in_ways", {"size": 3, "edges": ((0, 1), (2, 1))}),
    ("hulls", "in_order_of", {"size": 3, "pairs": ((0, 1), (1, 2))}),
    ("hulls", "below", {"size": 3, "pairs": ((0, 1), (1, 2))}),
    ("hulls", "on_plane", {"points": ((0, 0), (2, 2), (1, 1))}),
    ("numbers", "greatest_free", {"book": LINE}), ("numbers", "helly_lots", {"book": LINE}),
    ("numbers", "helly_holds", {"book": LINE, "value": ((0,), (1, 2))}),
    ("numbers", "few_apart", {"book": LINE, "lots": ((0, 1), (0,), (1, 2))}),
    ("numbers", "carried", {"book": LINE, "lot": (0, 2), "thing": 1}), ("numbers", "few_makers", {"book": LINE}),
    ("numbers", "parted", {"book": LINE, "lot": (0, 1, 2)}),
    ("numbers", "parted_holds", {"book": LINE, "lot": (0, 1, 2), "value": ((0, 2), (1,), 1)}),
    ("numbers", "greatest_whole", {"book": LINE}), ("numbers", "numbers", {"book": LINE}),
    ("takings", "takings", {"book": BOOK, "lot": (1, 2), "most": 1}),
    ("takings", "heap", {"book": BOOK, "lot": (1, 2), "most": 1}), ("takings", "heaps", {"book": BOOK, "most": 2}),
    ("takings", "right_takings", {"book": BOOK, "lot": (1, 2), "most": 2}),
    ("takings", "sum_heap", {"stands": ((BOOK, (1, 2), 2), (BOOK, (2,), 1))}),
    ("takings", "right_in_sum", {"stands": ((BOOK, (1, 2), 2), (BOOK, (2,), 1))}),
    ("takings", "prize_turns", {"book": BOOK, "lot": (1, 2), "thing": 2}),
    ("takings", "right_ends", {"book": BOOK, "lot": (1, 2), "thing": 2}),
    ("takings", "prize_play", {"book": BOOK, "lot": (1, 2), "thing": 2}),
    ("weighing", "weight", {"weights": (3, -2, 1), "lot": (0, 1)}),
    ("weighing", "heaviest", {"book": BOOK, "weights": (3, -2, 1)}),
    ("weighing", "all_heaviest", {"book": BOOK, "weights": (3, -2, 1)}),
    ("weighing", "lightest_over", {"book": BOOK, "weights": (3, -2, 1), "lot": (2,)}),
    ("weighing", "leeway", {"book": BOOK, "weights": (3, -2, 1), "thing": 1}),
    ("weighing", "heavy_paper", {"book": BOOK, "weights": (3, -2, 1)}),
    ("weighing", "heavy_bound", {"book": BOOK, "weights": (3, -2, 1), "paper": ((0, 1, 2),)}),
    ("weighing", "heavy_paper_holds", {"book": BOOK, "weights": (3, -2, 1), "value": ((0, 1, 2),)}),
    ("building", "stuck", {"book": BOOK}), ("building", "is_climb", {"book": BOOK, "value": (2, 1, 0)}),
    ("building", "climb_count", {"book": BOOK}), ("building", "least_worst", {"book": LINE, "costs": COSTS}),
    ("building", "best_climb", {"book": LINE, "costs": COSTS}),
    ("building", "best_climb_holds", {"book": LINE, "costs": COSTS, "value": (2, 1, 0)}),
    ("building", "worst_at", {"book": LINE, "costs": COSTS, "lot": (0, 1)}),
    ("building", "worst_lot", {"book": LINE, "costs": COSTS}),
    ("building", "least_sums", {"book": LINE, "costs": COSTS}),
    ("building", "least_sum", {"book": LINE, "costs": COSTS}),
    ("building", "cheap_climb", {"book": LINE, "costs": COSTS}),
    ("building", "cheap_climb_holds", {"book": LINE, "costs": COSTS, "value": (2, 1, 0)}),
    ("building", "sums_hold", {"book": LINE, "costs": COSTS, "value": (0, 0, 1, 0, 1, 1, 6)}),
]


def function(file, name):
    return getattr(importlib.import_module("meetlots." + file), name)


class BoundsTest(unittest.TestCase):
    def test_all_bounds(self):
        for name, worth in BOUNDS.items():
            with self.subTest(name=name):
                self.assertEqual(getattr(bounds, name), worth)
                self.assertIs(type(getattr(bounds, name)), int)


class ErrorsTest(unittest.TestCase):
    def test_the_root(self):
        self.assertEqual(errors.MeetError.__bases__, (ValueError,))

    def test_each_is_directly_under_the_root(self):
        for name in ERRORS:
            with self.subTest(name=name):
                self.assertEqual(getattr(errors, name).__bases__, (errors.MeetError,))
                self.assertEqual(getattr(errors, name).__module__, "meetlots.errors")

    def test_each_keeps_what_it_was_made_with(self):
        for name, argument in ERRORS.items():
            made = getattr(errors, name)
            for value in (None, 0, True, "word", (0, 1), [1, [2]], {"a": ()}, 10 ** 399):
                if argument is not None:
                    with self.subTest(name=name, value=value):
                        self.assertIs(getattr(made(value), argument), value)
                        self.assertIs(getattr(made(**{argument: value}), argument), value)
                        self.assertEqual(list(vars(made(value))), [argument])

    def test_a_lot_is_kept_just_as_it_was_passed(self):
        board = Board(BOOK)
        told = [board, KeptBoard(BOOK), [board], board.book, board.lot, (2, 0), errors.NotClosed((0,)), errors.Changed]
        for name in ("NotClosed", "NotAlike", "NoClimb", "Changed"):
            made = getattr(errors, name)
            for value in ODD + told:
                with self.subTest(name=name, value=repr(value)[:80]):
                    kept = repr(value)
                    for error in (made(value), made(lot=value)):
                        self.assertIs(error.lot, value)
                        self.assertEqual(list(vars(error)), ["lot"])
                        with self.assertRaises(errors.MeetError) as caught:
                            raise error
                        self.assertIs(caught.exception.lot, value)
                    self.assertEqual(repr(value), kept)
            with self.assertRaises(TypeError):
                made()
        self.assertEqual((board.book, board.lot, board.version), (BOOK, (), 0))

    def test_those_without_arguments(self):
        for name, argument in ERRORS.items():
            if argument is None:
                with self.subTest(name=name):
                    with self.assertRaises(errors.MeetError):
                        raise getattr(errors, name)()
                    with self.assertRaises(TypeError):
                        getattr(errors, name)(1)

    def test_no_error_is_missing_or_too_many(self):
        made = [name for name, item in vars(errors).items() if inspect.isclass(item)]
        self.assertEqual(sorted(made), sorted(list(ERRORS) + ["MeetError"]))


class FunctionsTest(unittest.TestCase):
    def test_names_files_and_arguments(self):
        for file, functions in FUNCTIONS.items():
            for name, arguments in functions.items():
                with self.subTest(file=file, name=name):
                    found = function(file, name)
                    self.assertEqual(found.__module__, "meetlots." + file)
                    told = inspect.signature(found).parameters.values()
                    self.assertEqual([argument.name for argument in told], arguments)
                    for argument in told:
                        self.assertEqual(argument.kind, inspect.Parameter.POSITIONAL_OR_KEYWORD)
                        self.assertIs(argument.default, inspect.Parameter.empty)

    def test_arguments_by_name_or_by_place(self):
        self.assertEqual(
            sorted((file, name) for file, name, _ in BY_NAME),
            sorted((file, name) for file, functions in FUNCTIONS.items() for name in functions),
        )
        for file, name, arguments in BY_NAME:
            with self.subTest(file=file, name=name):
                found = function(file, name)
                by_name = found(**dict(reversed(list(arguments.items()))))
                self.assertEqual(by_name, found(*arguments.values()))
                self.assertEqual(repr(by_name), repr(found(**arguments)))

    def test_sequences_are_tuples(self):
        for file, name, arguments in BY_NAME:
            with self.subTest(file=file, name=name):
                self.assert_plain(function(file, name)(**arguments))

    def assert_plain(self, value):
        self.assertIn(type(value), (tuple, int, str, bool, type(None)))
        if isinstance(value, tuple):
            for item in value:
                self.assert_plain(item)


class ClassesTest(unittest.TestCase):
    def test_methods_stand_in_the_class_itself(self):
        for (file, name), methods in CLASSES.items():
            made = function(file, name)
            self.assertEqual(made.__module__, "meetlots." + file)
            for method, arguments in methods.items():
                with self.subTest(name=name, method=method):
                    found = vars(made)[method]
                    told = list(inspect.signature(found).parameters.values())[1:]
                    self.assertEqual([argument.name for argument in told], arguments)
                    for argument in told:
                        self.assertEqual(argument.kind, inspect.Parameter.POSITIONAL_OR_KEYWORD)
                        self.assertIs(argument.default, inspect.Parameter.empty)

    def test_properties(self):
        """That they can only be read is tested with the boards."""
        board, kept = function("boards", "Board"), function("boards", "KeptBoard")
        for name in PROPERTIES:
            self.assertIsInstance(vars(board)[name], property)
            self.assertIs(vars(board)[name].fdel, None)
            self.assertIs(getattr(kept, name), vars(board)[name])

    def test_bases(self):
        kept, board = function("boards", "KeptBoard"), function("boards", "Board")
        self.assertEqual((kept.__bases__, board.__bases__), ((board,), (object,)))
        self.assertEqual(function("shells", "Shell").__bases__, (object,))

    def test_no_public_name_is_told_nowhere(self):
        for (file, name), methods in CLASSES.items():
            found = [word for word in vars(function(file, name)) if not word.startswith("_")]
            self.assertLessEqual(set(found), set(methods) | set(PROPERTIES))


if __name__ == "__main__":
    unittest.main()
