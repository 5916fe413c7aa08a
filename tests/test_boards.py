"""[L1] to [L4] and [A2] (i): boards, their edits, and what takes these back."""

import copy
import random
import unittest

from meetlots import books, leastbooks
from meetlots.boards import Board, KeptBoard
from meetlots.bounds import MAX_EDITS, MAX_RULES
from meetlots.errors import (
    BadBatch, BadBook, Changed, MeetError, NoRule, NothingToRedo, NothingToUndo, NotLot, NotRule, NotThing, NoVersion,
    Rejected, TooMany, TooManyEdits, Unfit,
)
from meetlots.lots import book_error, is_lot, is_rule
from meetlots.texts import book_text
from tests import brute
from tests.clock import assert_quick
from tests.values import ODD

EVERYTHING = tuple(range(10))
BOOK = (3, (((0,), (1,)), ((1,), (2,))))
RULE = ((0,), (2,))
PROPERTIES = ("book", "lot", "version")


def all_of(board):
    """All that a board tells."""
    return (
        board.book, board.lot, board.version, len(board), list(board), str(board), board.closure(), board.rounds(),
        board.spare(), board.news(), [board.at(k) for k in range(board.version + 1)],
    )


def whole(board):
    """All that a board tells, with what redo would tell."""
    other = board.copy()
    told = []
    while True:
        try:
            told.append((other.redo(), other.book, other.lot))
        except NothingToRedo:
            return all_of(board) + (told,)


def worked_on(made):
    """A board of a class with edits that stand, some that are taken back, and news."""
    board = made((3, BOOK[1] + (RULE,)))
    board.have(2)
    board.tidy()
    board.have(0)
    board.grow()
    board.undo()
    board.undo()
    return board


def outcome(call, *arguments):
    """What a call returns, or the name of the error that it raises and what this keeps."""
    try:
        return call(*arguments)
    except MeetError as error:
        return (type(error).__name__, tuple(vars(error).values()))


class Model:
    """What the document says of a board, word for word, by going through all lots."""

    def __init__(self, book, kept=False):
        self.size = book[0]
        self.kept = kept
        self.states = [(book[1], ())]
        self.undone = []
        self.former = book[1]

    def closed(self, rules):
        return brute.closed_sets((self.size, rules))

    def edited(self, state, word, given):
        """What an edit makes of a pair of rules and a held lot, or an error."""
        rules, lot = state
        if word == "add":
            if not is_rule(self.size, given[0]):
                raise NotRule(given[0])
            if len(rules) == 60:
                raise TooMany(60)
            return (rules + (given[0],), lot)
        if word in ("drop", "put"):
            index = given[0]
            if type(index) is not int or not 0 <= index < len(rules):
                raise NoRule(index)
            if word == "put" and not is_rule(self.size, given[1]):
                raise NotRule(given[1])
            row = list(rules)
            row[index:index + 1] = given[1:]
            return (tuple(row), lot)
        if word in ("have", "lose"):
            if type(given[0]) is not int or not 0 <= given[0] < self.size:
                raise NotThing(given[0])
            return (rules, brute.as_lot(set(lot) | {given[0]} if word == "have" else set(lot) - {given[0]}))
        if word == "grow":
            return (rules, brute.as_lot(brute.closure((self.size, rules), lot)))
        row = list(rules)
        for place in range(len(row) - 1, -1, -1):
            if brute.holds((self.size, tuple(row[:place] + row[place + 1:])), row[place]):
                del row[place]
        return (tuple(row), lot)

    def stand(self, state):
        rules = self.states[-1][0]
        if self.kept:
            apart = set(self.closed(rules)) ^ set(self.closed(state[0]))
            if apart:
                raise Changed(brute.lots_in_order(apart)[0])
        if len(self.states) > 40:
            raise TooManyEdits()
        self.former = rules
        self.states.append(state)
        self.undone = []
        return len(self.states) - 1

    def do(self, word, *given):
        if word == "undo":
            if len(self.states) == 1:
                raise NothingToUndo()
            self.undone.append(self.states.pop())
            self.former = self.undone[-1][0]
            return len(self.states) - 1
        if word == "redo":
            if not self.undone:
                raise NothingToRedo()
            self.former = self.states[-1][0]
            self.states.append(self.undone.pop())
            return len(self.states) - 1
        if word == "batch":
            state = self.states[-1]
            for place, edit in enumerate(given[0]):
                try:
                    state = self.edited(state, edit[0], edit[1:])
                except MeetError:
                    raise Rejected(place) from None
            return self.stand(state)
        return self.stand(self.edited(self.states[-1], word, given))

    def news(self):
        before, now = self.closed(self.former), self.closed(self.states[-1][0])
        return (brute.lots_in_order(set(before) - set(now)), brute.lots_in_order(set(now) - set(before)))

    def whole(self):
        """The same as whole tells of a board."""
        rules, lot = self.states[-1]
        book = (self.size, rules)
        rows = [lot]
        while True:
            more = brute.as_lot(brute.one_round(rules, rows[-1]))
            if more == rows[-1]:
                break
            rows.append(more)
        spare = tuple(
            place for place in range(len(rules))
            if brute.holds((self.size, rules[:place] + rules[place + 1:]), rules[place])
        )
        behind = len(self.states)
        return (
            book, lot, behind - 1, len(rules), list(rules), book_text(book), rows[-1], tuple(rows), spare, self.news(),
            [((self.size, state[0]), state[1]) for state in self.states],
            [(behind + k, (self.size, state[0]), state[1]) for k, state in enumerate(reversed(self.undone))],
        )


def random_rule(chance, size):
    if chance.random() < 0.1:
        return chance.choice([None, ((),), ((), (size,)), ([], ()), ((True,), ()), "0 > 1"])
    return (brute.random_lot(chance, size, 2), brute.random_lot(chance, size, 2))


def random_edit(chance, size, many):
    word = chance.choice(("add", "add", "drop", "put", "have", "have", "lose", "grow", "tidy"))
    index = chance.choice((0, many - 1, chance.randint(-1, many + 1), True, None))
    thing = chance.choice((chance.randint(-1, size), chance.randint(0, max(size - 1, 0)), "0", False))
    return (word,) + {
        "add": (random_rule(chance, size),), "drop": (index,), "put": (index, random_rule(chance, size)),
        "have": (thing,), "lose": (thing,),
    }.get(word, ())


def random_step(chance, size, many):
    word = chance.choice(("edit", "edit", "edit", "undo", "redo", "batch"))
    if word == "edit":
        return random_edit(chance, size, many)
    if word == "batch":
        return (word, tuple(random_edit(chance, size, many) for _ in range(chance.randint(0, 4))))
    return (word,)


class ManyEditsTest(unittest.TestCase):
    """Boards agree with the document over many rows of edits, taken back and done again."""

    def test_boards(self):
        chance = random.Random(191)
        for book in brute.random_books(192, 25, sizes=(0, 1, 2, 3, 4)):
            self.check(chance, Board(book), Model(book), 50)

    def test_kept_boards(self):
        chance = random.Random(193)
        for book in brute.random_books(194, 25, sizes=(0, 1, 2, 3, 4)):
            self.check(chance, KeptBoard(book), Model(book, kept=True), 50)

    def check(self, chance, board, model, many):
        first = model.closed(model.states[0][0])
        for _ in range(many):
            word, *given = random_step(chance, model.size, len(board))
            ahead = whole(board)
            found = outcome(getattr(board, word), *given)
            self.assertEqual(found, outcome(model.do, word, *given), (ahead, word, given))
            told = whole(board)
            self.assertEqual(told, model.whole(), (ahead, word, given))
            if isinstance(found, tuple):
                self.assertEqual(told, ahead)
            if model.kept:
                # [A2] (i): at each version the same lots are closed.
                self.assertTrue(all(brute.closed_sets(item[0]) == first for item in told[10]))

    def test_what_is_taken_back_leaves_nothing_behind(self):
        """[A2] (i)."""
        chance = random.Random(195)
        for book in brute.random_books(196, 15, sizes=(2, 3, 4)):
            board = Board(book)
            for edit in ((random_edit(chance, book[0], len(board))) for _ in range(20)):
                outcome(getattr(board, edit[0]), *edit[1:])
            version, told = board.version, all_of(board)
            more = chance.randint(1, 10)
            for _ in range(more):
                board.have(chance.randrange(book[0]))
                board.add(((), ()))
            for _ in range(2 * more):
                board.undo()
            self.assertEqual((board.version, all_of(board)[:9]), (version, told[:9]))
            self.assertEqual(board.news(), ((), ()))
            self.assertEqual(all_of(board)[10], told[10])


class MadeTest(unittest.TestCase):
    def test_new_boards(self):
        for made in (Board, KeptBoard):
            for book in brute.small_books()[::20] + [(10, ()), (0, ()), (10, (((), EVERYTHING),) * 60)]:
                board = made(book)
                self.assertEqual((board.book, board.lot, board.version), (book, (), 0))
                self.assertEqual(board.news(), ((), ()))
                self.assertEqual(board.at(0), (book, ()))
                self.assertIs(type(made(value=book)), made)
        self.assertTrue(issubclass(KeptBoard, Board))

    def test_bad_books(self):
        values = ODD + [
            (3, ()), (3, [((0,), (1,))]), (3, (((0,), (3,)),)), (3, (((0,), (1,)), None)), (3, (((), ()),) * 61),
            (11, ()),
            (True, ()), ("3", ()), (-1, ()), (3, (), ()), [3, ()], (3, {}), (3, (((1, 0), ()),)),
        ]
        for made in (Board, KeptBoard):
            for value in values:
                error = book_error(value)
                if error is None:
                    self.assertEqual(made(value).book, value)
                else:
                    with self.assertRaises(BadBook) as caught:
                        made(value)
                    self.assertEqual(repr(caught.exception.error), repr(error))

    def test_properties_can_be_read(self):
        for made in (Board, KeptBoard):
            board = worked_on(made)
            self.assertEqual((board.book, board.lot, board.version), (BOOK, (2,), 2))
            board.redo()
            self.assertEqual((board.book, board.lot, board.version), (BOOK, (0, 2), 3))
            for name in PROPERTIES:
                self.assertEqual(getattr(board, name), getattr(board, name))

    def test_properties_can_only_be_read(self):
        for made in (Board, KeptBoard):
            for board in (made(BOOK), made((0, ())), worked_on(made), worked_on(made).copy()):
                told = repr((whole(board), vars(board)))
                for name in PROPERTIES:
                    own = getattr(board, name)
                    for value in ODD + [own, (0,), (2,), (0, 1, 2), BOOK, (3, ()), 0, 2, 3, board, made(BOOK), property]:
                        with self.subTest(made=made.__name__, name=name, value=repr(value)[:80]):
                            with self.assertRaises(AttributeError):
                                setattr(board, name, value)
                            self.assertEqual(repr((whole(board), vars(board))), told)
                    with self.assertRaises(AttributeError):
                        delattr(board, name)
                    self.assertEqual(repr((whole(board), vars(board))), told)

    def test_properties_can_only_be_read_by_the_signs_of_assignments(self):
        for made in (Board, KeptBoard):
            board = worked_on(made)
            told = repr(whole(board))
            with self.assertRaises(AttributeError):
                board.lot = (0, 1)
            with self.assertRaises(AttributeError):
                board.book = BOOK
            with self.assertRaises(AttributeError):
                board.version = 2
            with self.assertRaises(AttributeError):
                board.lot += (1,)
            with self.assertRaises(AttributeError):
                board.book += ()
            with self.assertRaises(AttributeError):
                board.version -= 1
            self.assertEqual(repr(whole(board)), told)
            self.assertEqual([board.redo(), board.lot, board.redo(), board.lot], [3, (0, 2), 4, (0, 1, 2)])


class SequenceTest(unittest.TestCase):
    def test_items(self):
        board = Board(BOOK)
        self.assertEqual([board[0], board[1], len(board)], [BOOK[1][0], BOOK[1][1], 2])
        for index in ODD + [2, -1, 2.0, slice(0, 1), (0,), board]:
            if type(index) is int and 0 <= index < 2:
                self.assertEqual(board[index], BOOK[1][index])
            else:
                with self.assertRaises(NoRule) as caught:
                    board[index]
                self.assertIs(caught.exception.index, index)
        with self.assertRaises(NoRule):
            Board((3, ()))[0]

    def test_members(self):
        board = Board((2, (((1,), ()), ((0,), (1,)))))
        self.assertIs(((1,), ()) in board, True)
        self.assertIs(((0,), (1,)) in board, True)
        for value in ODD + [
            ((True,), ()), ((1,), [1]), [(1,), ()], ((False,), (True,)), ((0,), (2,)), ((1,), (0,)), ((1,), (), ()),
            board,
            ((1.0,), ()), board.book, {1: ()},
        ]:
            self.assertIs(value in board, False, value)
            self.assertIs(value not in board, True, value)

    def test_iterating_while_it_is_edited(self):
        board = Board(BOOK)
        rules = iter(board)
        self.assertEqual(next(rules), BOOK[1][0])
        board.drop(1)
        board.add(RULE)
        board.batch((("drop", 0), ("drop", 0)))
        self.assertEqual(list(rules), [BOOK[1][1]])
        self.assertEqual(list(board), [])
        seen = []
        board = Board(BOOK)
        for rule in board:
            board.add(rule)
            seen.append(rule)
        self.assertEqual(tuple(seen), BOOK[1])
        self.assertEqual(tuple(board), BOOK[1] * 2)

    def test_texts(self):
        for book in brute.random_books(197, 10):
            self.assertEqual(str(Board(book)), book_text(book))
        self.assertEqual(str(KeptBoard((0, ()))), "0")
        self.assertIs(type(str(Board(BOOK))), str)

    def test_equal_boards(self):
        one, other = Board(BOOK), Board(BOOK)
        self.assertTrue(one == other)
        self.assertFalse(one != other)
        self.assertTrue(one == KeptBoard(BOOK) and KeptBoard(BOOK) == one)
        one.have(1)
        self.assertFalse(one == other)
        self.assertTrue(one != other)
        other.have(0)
        other.have(1)
        other.lose(0)
        # How they came to be what they are, and what was taken back, does not matter.
        self.assertTrue(one == other)
        self.assertEqual((one.version, other.version), (1, 3))
        for book in [(3, BOOK[1][::-1]), (4, BOOK[1]), (3, BOOK[1][:1]), (3, BOOK[1] * 2)]:
            self.assertFalse(Board(book) == Board(BOOK))
            self.assertTrue(Board(book) != Board(BOOK))
        for value in ODD + [BOOK, BOOK[1], str(Board(BOOK)), Board]:
            self.assertIs(Board(BOOK) == value, False)
            self.assertIs(Board(BOOK) != value, True)
            self.assertIs(value == Board(BOOK), False)


class AskingTest(unittest.TestCase):
    def test_agrees_with_the_functions(self):
        chance = random.Random(198)
        for book in brute.random_books(199, 30):
            for made in (Board, KeptBoard):
                board = made(book)
                for thing in brute.random_lot(chance, book[0], 3):
                    board.have(thing)
                self.assertEqual(board.closure(), books.closure(book, board.lot))
                self.assertEqual(board.rounds(), books.rounds(book, board.lot))
                self.assertEqual(board.spare(), leastbooks.spare(book))
                for lot in brute.tuples_of(book[0]):
                    self.assertIs(board.closed(lot), books.is_closed(book, lot))
                for thing in range(book[0]):
                    found = board.steps(thing)
                    self.assertEqual(found is None, thing not in board.closure())
                    self.assertTrue(found is None or books.steps_hold(book, board.lot, thing, found))
                for _ in range(10):
                    rule = (brute.random_lot(chance, book[0], 3), brute.random_lot(chance, book[0], 3))
                    self.assertIs(board.follows(rule), books.follows(book, rule))
                    self.assertEqual(board.breaking(rule), books.breaking(book, rule))

    def test_wrong_values(self):
        for board in (Board(BOOK), KeptBoard(BOOK)):
            told = whole(board)
            values = ODD + [
                (1, 0), (0, 0), (3,), (True,), [0], ((0,), (1, 0)), ((0,), (3,)), ((0,), [1]), [(0,), (1,)],
                ((False,), (1,)),
                ((0,), (1,), (2,)), -1, 3, False, "0", board, BOOK,
            ]
            for value in values:
                self.check_raised(board.closed, value, is_lot(3, value), NotLot, "value")
                self.check_raised(board.steps, value, type(value) is int and 0 <= value < 3, NotThing, "value")
                self.check_raised(board.follows, value, is_rule(3, value), NotRule, "value")
                self.check_raised(board.breaking, value, is_rule(3, value), NotRule, "value")
                for call in (board.have, board.lose):
                    if not (type(value) is int and 0 <= value < 3):
                        self.check_raised(call, value, False, NotThing, "value")
                if not is_rule(3, value):
                    self.check_raised(board.add, value, False, NotRule, "value")
                    self.check_raised(lambda item: board.put(1, item), value, False, NotRule, "value")
                if not (type(value) is int and 0 <= value < 2):
                    self.check_raised(board.drop, value, False, NoRule, "index")
                    self.check_raised(lambda item: board.put(item, RULE), value, False, NoRule, "index")
                    self.check_raised(lambda item: board.put(item, item), value, False, NoRule, "index")
                if not (type(value) is int and value == 0):
                    self.check_raised(board.at, value, False, NoVersion, "given")
            self.assertEqual(whole(board), told)

    def check_raised(self, call, value, good, error, name):
        if good:
            call(value)
        else:
            with self.assertRaises(error) as caught:
                call(value)
            self.assertIs(getattr(caught.exception, name), value)


class EditsTest(unittest.TestCase):
    def test_each_edit(self):
        board = Board(BOOK)
        self.assertEqual(board.add(rule=RULE), 1)
        self.assertEqual(board.book, (3, BOOK[1] + (RULE,)))
        self.assertEqual(board.drop(index=0), 2)
        self.assertEqual(board.book, (3, (BOOK[1][1], RULE)))
        self.assertEqual(board.put(index=1, rule=((), ())), 3)
        self.assertEqual(board.book, (3, (BOOK[1][1], ((), ()))))
        self.assertEqual((board.have(thing=1), board.lot), (4, (1,)))
        self.assertEqual((board.grow(), board.lot), (5, (1, 2)))
        self.assertEqual((board.lose(thing=1), board.lot), (6, (2,)))
        self.assertEqual((board.tidy(), board.book), (7, (3, BOOK[1][1:])))
        self.assertEqual((board.batch(edits=()), board.version), (8, 8))
        self.assertEqual(board.at(version=3), ((3, (BOOK[1][1], ((), ()))), ()))

    def test_edits_that_leave_all_as_it_was(self):
        board = Board((3, BOOK[1]))
        board.have(2)
        told = (board.book, board.lot)
        edits = [("put", 0, BOOK[1][0]), ("have", 2), ("lose", 0), ("grow",), ("tidy",), ("batch", ())]
        for k, (word, *given) in enumerate(edits):
            self.assertEqual(getattr(board, word)(*given), k + 2)
            self.assertEqual((board.book, board.lot), told)
            self.assertEqual(board.news(), ((), ()))

    def test_tidy_goes_from_the_last_one(self):
        twice = (2, (((0,), (1,)), ((0,), (1,)), ((1,), (1,))))
        board = Board(twice)
        board.tidy()
        self.assertEqual(board.book, (2, twice[1][:1]))
        ring = (3, (((0,), (1, 2)), ((0,), (1,)), ((1,), (2,)), ((0,), (2,))))
        board = Board(ring)
        board.tidy()
        self.assertEqual(board.book, (3, (((0,), (1, 2)), ((1,), (2,)))))
        self.assertEqual(board.spare(), ())
        self.assertIs(books.alike(board.book, ring), True)

    def test_sixty_rules_and_one_more(self):
        board = Board((3, (RULE,) * 59))
        self.assertEqual(board.add(RULE), 1)
        with self.assertRaises(TooMany) as caught:
            board.add(RULE)
        self.assertEqual(caught.exception.limit, MAX_RULES)
        with self.assertRaises(NotRule):
            board.add(((0,), (3,)))
        self.assertEqual(board.put(59, ((), ())), 2)
        self.assertEqual((len(board), board.version), (60, 2))
        with self.assertRaises(Rejected) as caught:
            board.batch((("have", 0), ("add", RULE)))
        self.assertEqual(caught.exception.index, 1)
        self.assertEqual(board.batch((("drop", 3), ("add", RULE))), 3)

    def test_forty_edits_and_one_more(self):
        for made in (Board, KeptBoard):
            board = made((3, (RULE,) * 58))
            for k in range(MAX_EDITS):
                self.assertEqual(board.have(k % 3), k + 1)
            told = whole(board)
            for word, *given in [
                ("add", RULE), ("drop", 0), ("put", 0, RULE), ("have", 0), ("lose", 0), ("grow",), ("tidy",),
                ("batch", ()),
                ("batch", (("have", 0),) * 12),
            ]:
                with self.assertRaises(TooManyEdits):
                    getattr(board, word)(*given)
            # The other errors come first.
            for error, word, *given in [
                (NotRule, "add", None), (NoRule, "drop", 58), (NoRule, "put", 58, None), (NotRule, "put", 0, None),
                (NotThing, "have", 3), (NotThing, "lose", True), (BadBatch, "batch", None), (BadBatch, "batch", ((),)),
                (Rejected, "batch", (("have", 0), ("have", 3))),
            ]:
                with self.assertRaises(error):
                    getattr(board, word)(*given)
            self.assertEqual(whole(board), told)
            board.undo()
            self.assertEqual(board.batch((("add", RULE), ("add", RULE))), 40)
            with self.assertRaises(TooMany):
                board.add(RULE)

    def test_redo_at_the_bound(self):
        board = Board((1, ()))
        for _ in range(40):
            board.grow()
        for k in range(40):
            self.assertEqual(board.undo(), 39 - k)
        for k in range(40):
            self.assertEqual(board.redo(), k + 1)
        with self.assertRaises(NothingToRedo):
            board.redo()
        with self.assertRaises(TooManyEdits):
            board.grow()


class BatchTest(unittest.TestCase):
    def test_sizes(self):
        board = Board(BOOK)
        self.assertEqual(board.batch(()), 1)
        self.assertEqual(board.batch((("have", 0),) * 12), 2)
        with self.assertRaises(BadBatch):
            board.batch((("have", 0),) * 13)
        self.assertEqual(board.version, 2)

    def test_one_edit(self):
        board = Board(BOOK)
        board.batch((("add", RULE), ("have", 0), ("grow",), ("drop", 0), ("lose", 2), ("put", 0, RULE), ("tidy",)))
        self.assertEqual((board.book, board.lot, board.version), ((3, (RULE,)), (0, 1), 1))
        self.assertEqual(board.news(), ((), ((1,), (0, 2))))
        self.assertEqual(board.undo(), 0)
        self.assertEqual((board.book, board.lot), (BOOK, ()))
        self.assertEqual(board.redo(), 1)
        self.assertEqual((board.book, board.lot), ((3, (RULE,)), (0, 1)))

    def test_no_batches(self):
        board = Board(BOOK)
        told = whole(board)
        good = ("have", 0)
        for edits in ODD + [
            [good], (list(good),), (good, None), (good, ()), (("have",),), (("have", 0, 0),), (("grow", 0),),
            (("tidy", None),),
            (("add",),), (("add", RULE, RULE),), (("put", 0),), (("put", 0, RULE, 0),), (("drop",),), (("lose",),),
            (("undo",),),
            (("redo",),), (("batch", ()),), (("news",),), (("copy",),), (("at", 0),), (("Have", 0),), ((b"have", 0),),
            (("have ", 0),), ((None, 0),), ((True, 0),), ((("have",), 0),), ((["have"], 0),), (({}, 0),), "have",
            {good: 0},
            good, (good, "grow"), ((board, 0),), (("grow",), [("grow",)]),
        ]:
            if edits != ():
                with self.assertRaises(BadBatch):
                    board.batch(edits)
        self.assertEqual(whole(board), told)

    def test_bad_batches_ahead_of_rejected_ones(self):
        board = Board(BOOK)
        with self.assertRaises(BadBatch):
            board.batch((("have", 9), ("have",)))
        with self.assertRaises(BadBatch):
            board.batch((("have", 9),) * 13)

    def test_rejected(self):
        board = Board(BOOK)
        told = whole(board)
        for bad in [
            ("add", None), ("add", ((True,), ())), ("drop", 2), ("drop", -1), ("drop", "0"), ("put", 2, RULE),
            ("put", 0, []), ("have", 3), ("have", None), ("lose", True), ("lose", [[]]),
        ]:
            for ahead in range(12):
                with self.assertRaises(Rejected) as caught:
                    board.batch((("have", 0),) * ahead + (bad,) + (("lose", 9),) * (11 - ahead))
                self.assertEqual(caught.exception.index, ahead)
        self.assertEqual(whole(board), told)
        # Each edit is told to what those ahead of it made.
        with self.assertRaises(Rejected) as caught:
            board.batch((("drop", 1), ("drop", 0), ("drop", 0)))
        self.assertEqual(caught.exception.index, 2)
        self.assertEqual(board.batch((("add", RULE), ("put", 2, ((), ())), ("drop", 2))), 1)


class HistoryTest(unittest.TestCase):
    def test_both_ends(self):
        for board in (Board(BOOK), KeptBoard(BOOK)):
            for _ in range(2):
                with self.assertRaises(NothingToUndo):
                    board.undo()
                with self.assertRaises(NothingToRedo):
                    board.redo()
            board.have(0)
            board.grow()
            self.assertEqual([board.undo(), board.lot, board.undo(), board.lot], [1, (0,), 0, ()])
            with self.assertRaises(NothingToUndo):
                board.undo()
            self.assertEqual([board.redo(), board.lot, board.redo(), board.lot], [1, (0,), 2, (0, 1, 2)])
            with self.assertRaises(NothingToRedo):
                board.redo()

    def test_an_edit_forgets_what_was_taken_back(self):
        board = Board(BOOK)
        board.have(0)
        board.have(1)
        board.undo()
        with self.assertRaises(NotThing):
            board.have(3)
        board.have(2)
        with self.assertRaises(NothingToRedo):
            board.redo()
        self.assertEqual(board.lot, (0, 2))

    def test_versions(self):
        board = Board(BOOK)
        board.have(0)
        board.drop(0)
        board.undo()
        self.assertEqual([board.at(0), board.at(1)], [(BOOK, ()), (BOOK, (0,))])
        for version in ODD + [2, -1, True, False, "1", None, (0,), 10 ** 399, 1.0]:
            if not (type(version) is int and 0 <= version <= 1):
                with self.assertRaises(NoVersion) as caught:
                    board.at(version)
                self.assertIs(caught.exception.given, version)

    def test_news(self):
        board = Board((2, ()))
        board.add(((0,), (1,)))
        self.assertEqual(board.news(), (((0,),), ()))
        board.have(0)
        self.assertEqual(board.news(), ((), ()))
        board.undo()
        self.assertEqual(board.news(), ((), ()))
        board.undo()
        self.assertEqual(board.news(), ((), ((0,),)))
        board.redo()
        self.assertEqual(board.news(), (((0,),), ()))
        board.put(0, ((1,), (0,)))
        self.assertEqual(board.news(), (((1,),), ((0,),)))
        for call in (board.redo, lambda: board.drop(5), lambda: board.batch((("drop", 0), ("drop", 0)))):
            with self.assertRaises(MeetError):
                call()
            self.assertEqual(board.news(), (((1,),), ((0,),)))


class CopyTest(unittest.TestCase):
    def test_a_copy_beside_its_board(self):
        for made in (Board, KeptBoard):
            board = made(BOOK)
            board.have(0)
            board.add(RULE)
            board.add(RULE)
            board.undo()
            other = board.copy()
            self.assertIs(type(other), made)
            told = whole(board)
            self.assertEqual(whole(other), told)
            self.assertTrue(other == board and other is not board)
            other.redo()
            other.grow()
            self.assertEqual(whole(board), told)
            told = whole(other)
            board.undo()
            board.lose(0)
            board.have(2)
            self.assertEqual(whole(other), told)

    def test_a_copy_of_a_kept_board_keeps(self):
        with self.assertRaises(Changed) as caught:
            KeptBoard(BOOK).copy().drop(1)
        self.assertEqual(caught.exception.lot, (1,))


class AttemptTest(unittest.TestCase):
    def filled(self, made=Board):
        board = made(BOOK)
        board.have(0)
        board.add(RULE)
        board.have(1)
        board.undo()
        return board

    def test_what_work_returns(self):
        board = self.filled()
        given = []

        def work(same):
            given.append(same)
            same.grow()
            return (same.lot, [given])

        self.assertEqual(board.attempt(work), ((0, 1, 2), [given]))
        self.assertIs(given[0], board)
        self.assertEqual((board.version, board.lot), (3, (0, 1, 2)))
        self.assertIs(board.attempt(work=lambda same: None), None)

    def test_errors_of_the_package_take_all_back(self):
        class OwnError(MeetError):
            """Any error under MeetError."""

        for made in (Board, KeptBoard):
            for error in (NotThing(9), Unfit(), OwnError("own"), MeetError("root")):
                board = self.filled(made)
                told = whole(board)

                def work(same):
                    same.redo()
                    same.undo()
                    same.undo()
                    same.have(2)
                    same.put(0, BOOK[1][0])
                    raise error

                with self.assertRaises(type(error)) as caught:
                    board.attempt(work)
                self.assertIs(caught.exception, error)
                self.assertEqual(whole(board), told)

    def test_errors_of_the_board_itself(self):
        board = self.filled()
        told = whole(board)
        with self.assertRaises(NoRule):
            board.attempt(lambda same: (same.drop(0), same.drop(0), same.drop(0), same.drop(0)))
        self.assertEqual(whole(board), told)

    def test_other_errors_leave_what_was_done(self):
        board = self.filled()

        def work(same):
            same.have(2)
            raise KeyError("other")

        with self.assertRaises(KeyError):
            board.attempt(work)
        self.assertEqual((board.lot, board.version), ((0, 2), 3))
        with self.assertRaises(NothingToRedo):
            board.redo()

    def test_assignments_that_are_attempted(self):
        """An assignment to a property raises no MeetError, so that what was done ahead of it stays."""
        for made in (Board, KeptBoard):
            for name in PROPERTIES:
                board = self.filled(made)
                with self.assertRaises(AttributeError):
                    board.attempt(lambda same: (same.have(2), setattr(same, name, ()), same.have(1)))
                self.assertEqual((board.book, board.lot, board.version), ((3, BOOK[1] + (RULE,)), (0, 2), 3))

    def test_attempts_within_attempts(self):
        board = self.filled()

        def inner(same):
            same.have(1)
            same.drop(9)

        def outer(same):
            same.lose(0)
            with self.assertRaises(NoRule):
                same.attempt(inner)
            self.assertEqual((same.lot, same.version), ((), 3))
            same.have(2)
            return same.attempt(lambda deep: deep.grow())

        self.assertEqual(board.attempt(outer), 5)
        self.assertEqual((board.lot, board.version), ((2,), 5))
        told = whole(board)
        with self.assertRaises(NoRule):
            board.attempt(lambda same: (same.attempt(lambda deep: deep.have(0)), same.drop(9)))
        self.assertEqual(whole(board), told)

    def test_no_edit(self):
        board = self.filled()
        told = whole(board)
        board.attempt(lambda same: same.closure())
        self.assertEqual(whole(board), told)


class KeptTest(unittest.TestCase):
    def test_changed(self):
        board = KeptBoard(BOOK)
        for call, given, lot in [
            (board.drop, (0,), (0,)), (board.drop, (1,), (1,)), (board.add, (((2,), (0,)),), (2,)),
            (board.put, (0, ((), (0,))), ()), (board.batch, ((("drop", 0), ("drop", 0)),), (0,)),
        ]:
            told = whole(board)
            with self.assertRaises(Changed) as caught:
                call(*given)
            self.assertEqual(caught.exception.lot, lot)
            self.assertEqual(whole(board), told)

    def test_a_batch_is_one_edit(self):
        board = KeptBoard(BOOK)
        self.assertEqual(board.batch((("drop", 0), ("drop", 0), ("add", BOOK[1][1]), ("add", BOOK[1][0]))), 1)
        self.assertEqual(board.book, (3, BOOK[1][::-1]))
        self.assertEqual(board.news(), ((), ()))

    def test_order_of_errors(self):
        board = KeptBoard((3, BOOK[1] + (RULE,) * 58))
        for _ in range(40):
            board.grow()
        for error, call, given in [
            (NotRule, board.add, (None,)), (TooMany, board.add, (((2,), (0,)),)), (NoRule, board.drop, (60,)),
            (NotRule, board.put, (0, None)), (Changed, board.drop, (1,)),
            (Rejected, board.batch, ((("drop", 1), ("drop", 99)),)), (Changed, board.batch, ((("drop", 1),),)),
            (BadBatch, board.batch, ((("drop",),),)), (TooManyEdits, board.drop, (59,)),
            (TooManyEdits, board.tidy, ()),
        ]:
            with self.assertRaises(error):
                call(*given)

    def test_what_never_changes_it(self):
        board = KeptBoard((3, BOOK[1] + (RULE,)))
        for call, given in [
            (board.have, (0,)), (board.grow, ()), (board.lose, (2,)), (board.tidy, ()), (board.undo, ()),
            (board.redo, ()),
        ]:
            call(*given)
        self.assertEqual(board.book, BOOK)


class ValuesTest(unittest.TestCase):
    def test_what_is_passed_stays(self):
        board = Board(BOOK)
        for value in ODD:
            kept = copy.deepcopy(value)
            for call in (
                Board, KeptBoard, board.closed, board.steps, board.follows, board.breaking, board.add, board.drop,
                board.have, board.lose, board.batch, board.at, board.__getitem__, board.__contains__, board.__eq__,
                lambda item: board.put(item, item),
            ):
                outcome(call, value)
            self.assertEqual(repr(value), repr(kept))

    def test_what_is_returned_stays(self):
        board = Board(BOOK)
        board.have(0)
        told = all_of(board)
        kept = repr(told)
        board.batch((("drop", 0), ("have", 2)))
        board.undo()
        board.tidy()
        self.assertEqual(repr(told), kept)

    def test_no_keys(self):
        with self.assertRaises(TypeError):
            hash(Board(BOOK))


class TimeTest(unittest.TestCase):
    def test_calls_at_the_bounds(self):
        many = brute.random_books(200, 1, sizes=(10,), most_rules=60, most_things=4)[0]
        many = (10, (many[1] * 60)[:60])
        for made in (Board, KeptBoard):
            for book in [(10, ()), many]:
                board = made(book)
                for call, given in [
                    (board.have, (0,)), (board.grow, ()), (board.add, (RULE,)), (board.tidy, ()), (board.undo, ()),
                    (board.redo, ()), (board.news, ()), (board.spare, ()), (board.rounds, ()), (board.steps, (9,)),
                    (board.breaking, (RULE,)), (board.closed, (EVERYTHING,)), (board.copy, ()), (made, (book,)),
                    (board.batch, ((("tidy",), ("grow",)) * 6,)), (board.attempt, (lambda same: same.undo(),)),
                ]:
                    assert_quick(self, call, *given, seconds=3)


if __name__ == "__main__":
    unittest.main()
