"""[L5]: shells."""

import random
import unittest

from meetlots.boards import Board
from meetlots.errors import MeetError
from meetlots.shells import Shell
from meetlots.texts import lot_text, rule_text
from tests import brute
from tests.clock import assert_quick
from tests.values import ODD

WORDS = """add drop put have lose grow tidy undo redo book rules lot closure rounds spare
    closed follows breaks""".split()
LONG = "1" * 31
# "lot" is a line.
NO_LINES = [value for value in ODD if value != "lot"]


def shell(*lines):
    """A shell behind some lines."""
    made = Shell()
    for line in lines:
        made.say(line)
    return made


def answers(made, *lines):
    return [made.say(line) for line in lines]


class Model:
    """What the document says of a shell, by a board."""

    def __init__(self, size):
        self.board = Board((size, ()))

    def say(self, word, *given):
        try:
            return self.answer(word, given)
        except MeetError as error:
            return f"no {type(error).__name__}"

    def answer(self, word, given):
        board = self.board
        if word in ("closed", "follows"):
            return "yes" if getattr(board, word)(*given) else "no"
        if word == "breaks":
            lot = board.breaking(*given)
            return "no lot" if lot is None else lot_text(lot)
        if word == "book":
            return " / ".join(rule_text(rule) for rule in board.book[1]) if board.book[1] else "no rules"
        if word == "rounds":
            return " / ".join(lot_text(lot) for lot in board.rounds())
        if word in ("lot", "closure", "rules", "spare"):
            return {
                "lot": lot_text(board.lot), "closure": lot_text(board.closure()), "rules": str(len(board.book[1])),
                "spare": " ".join(str(place) for place in board.spare()) or "none",
            }[word]
        return f"version {getattr(board, word)(*given)}"


def item_text(item):
    """How what is told to a shell stands in a line."""
    if isinstance(item, int):
        return str(item)
    if item and isinstance(item[0], tuple) or item == ((), ()):
        return rule_text(item)
    return lot_text(item)


class ManyLinesTest(unittest.TestCase):
    def test_agrees_with_a_board(self):
        chance = random.Random(211)
        for size in (0, 1, 2, 3, 4, 10):
            made, model = shell(f"new {size}"), Model(size)
            for _ in range(150):
                word = chance.choice(WORDS)
                given = self.random_given(chance, word, size)
                line = " ".join([word] + [item_text(item) for item in given])
                self.assertEqual(made.say(line), model.say(word, *given), line)

    def random_given(self, chance, word, size):
        number = chance.randint(0, max(1, size))
        if word in ("drop", "have", "lose"):
            return (number,)
        rule = (self.random_lot(chance, size), self.random_lot(chance, size))
        return {
            "add": (rule,), "put": (number, rule), "closed": (rule[0],), "follows": (rule,), "breaks": (rule,),
        }.get(word, ())

    def random_lot(self, chance, size):
        if chance.random() < 0.05:
            return chance.choice([(1, 0), (0, 0), (size,), (0, 10 ** 30)])
        return brute.random_lot(chance, size, 2)


class NewTest(unittest.TestCase):
    def test_no_board_ahead_of_the_first_new(self):
        made = Shell()
        for word in WORDS:
            for line in (word, word + " 0", word + " none > none", word + " x y z", word + " -1 >"):
                self.assertEqual(made.say(line), "no board", line)

    def test_what_ahead_of_the_first_new(self):
        made = Shell()
        for line in NO_LINES + [
            "", " ", "  ", "new", "new ", " new 3", "new  3", "new 3 ", "new 11", "new 03", "new -1", "new 3 3",
            "new x", "new 3\n",
            "new " + LONG, "new none", "new\n3", "newer 3", "NEW 3", "new +3", "new 3.", "book ", " book", "book  0",
            "book\n",
            "Book", "books", "say", "> >", "none", "0", "new 1_0",
        ]:
            self.assertEqual(made.say(line), "what", line)
        self.assertEqual(made.say("book"), "no board")

    def test_sizes(self):
        for size in range(11):
            self.assertEqual(answers(Shell(), f"new {size}"), ["ok"])
        made = shell("new 0")
        self.assertEqual(answers(made, "book", "have 0", "add none > none", "closed none", "closed 0"),
                         ["no rules", "no NotThing", "version 1", "yes", "no NotLot"])

    def test_a_new_board_each_time(self):
        made = shell("new 3", "add 0 > 1", "have 0", "undo")
        self.assertEqual(answers(made, "new 11", "rules", "new 4", "book", "lot", "redo", "undo", "have 3"),
                         ["what", "1", "ok", "no rules", "none", "no NothingToRedo", "no NothingToUndo", "version 1"])

    def test_shells_do_not_share_a_board(self):
        one, other = shell("new 3", "have 0"), shell("new 3")
        self.assertEqual(answers(other, "lot", "have 1", "lot"), ["none", "version 1", "1"])
        self.assertEqual(answers(one, "lot"), ["0"])


class LinesTest(unittest.TestCase):
    def filled(self):
        return shell("new 4", "add 0 > 1", "add 1 2 > 3", "add 3 > 0", "have 0")

    def test_what_is_asked(self):
        made = self.filled()
        self.assertEqual(
            answers(made, "book", "rules", "lot", "closure", "have 2", "rounds", "spare", "add 3 > 1", "spare", "tidy",
                    "rules"),
            ["0 > 1 / 1 2 > 3 / 3 > 0", "3", "0", "0 1", "version 5", "0 2 / 0 1 2 / 0 1 2 3", "none", "version 6",
             "3", "version 7", "3"],
        )
        self.assertEqual(
            answers(made, "closed none", "closed 0", "closed 0 1", "follows 0 2 > 3", "follows 1 > 3", "breaks 1 > 3",
                    "breaks 0 2 > 3", "breaks none > 2", "follows none > none"),
            ["yes", "no", "yes", "yes", "no", "1", "no lot", "none", "yes"],
        )
        self.assertEqual(made.say(line="lot"), "0 2")

    def test_spare_places(self):
        made = shell("new 2", "add 0 > 1", "add 0 > 1", "add none > none")
        self.assertEqual(answers(made, "spare", "drop 2", "spare"), ["0 1 2", "version 4", "0 1"])

    def test_edits(self):
        made = self.filled()
        self.assertEqual(
            answers(made, "drop 0", "put 0 none > 3", "lose 0", "grow", "lot", "undo", "undo", "redo", "book"),
            ["version 5", "version 6", "version 7", "version 8", "0 3", "version 7", "version 6", "version 7",
             "none > 3 / 3 > 0"],
        )

    def test_errors_of_the_board(self):
        made = self.filled()
        for line, name in [
            ("add 1 0 > 2", "NotRule"), ("add 0 > 4", "NotRule"), ("add 0 0 > 1", "NotRule"),
            ("add 0 > " + LONG, "NotRule"),
            ("drop 3", "NoRule"), ("drop " + LONG, "NoRule"), ("put 3 0 > 9", "NoRule"), ("put 0 0 > 9", "NotRule"),
            ("have 4", "NotThing"), ("lose " + LONG, "NotThing"), ("closed 1 0", "NotLot"), ("closed 4", "NotLot"),
            ("closed 1 1", "NotLot"), ("follows 4 > none", "NotRule"), ("breaks 2 1 > 0", "NotRule"),
            ("redo", "NothingToRedo"),
        ]:
            self.assertEqual(made.say(line), "no " + name, line)
        self.assertEqual(answers(made, "undo", "undo", "undo", "undo", "undo"),
                         ["version 3", "version 2", "version 1", "version 0", "no NothingToUndo"])

    def test_bounds_of_the_board(self):
        made = shell("new 1")
        for k in range(40):
            self.assertEqual(made.say("add none > none"), f"version {k + 1}")
        self.assertEqual(answers(made, "grow", "have 0", "have 1", "add 1 > 0", "rules"),
                         ["no TooManyEdits", "no TooManyEdits", "no NotThing", "no NotRule", "40"])

    def test_what_is_no_such_line(self):
        made = self.filled()
        for line in NO_LINES + [
            "", " ", "book ", " book", "book  0", "book\n", "book 0", "rules 1", "lot none", "closure 0", "rounds 0",
            "spare 0",
            "grow 0", "tidy tidy", "undo 1", "redo 1", "add", "add 0", "add 0 >", "add > 0", "add >", "add 0 > 1 > 2",
            "add 0 > > 1",
            "add 0>1", "add none 0 > 1", "add none none > 1", "add 0 > none 1", "add 00 > 1", "add 0 > 01",
            "add -1 > 0",
            "add 0 > 1 ", "add 0  > 1", "add\n0 > 1", "add 0 > 1\n", "drop", "drop 0 0", "drop -1", "drop 00",
            "drop none", "drop 1.0",
            "drop 1" + LONG, "drop +1", "have", "have x", "have 01", "have 0 1", "have none", "have 1" + LONG, "lose",
            "lose 0 0",
            "put", "put 0", "put 0 > 1", "put 0 0 1", "put 0 0 >", "put x 0 > 1", "put none 0 > 1", "put 00 0 > 1",
            "put 0 0 > 1 > 2",
            "put 0 0 > 1" + LONG, "closed", "closed >", "closed 0 > 1", "closed none none", "closed none 0",
            "closed x",
            "closed 0 1" + LONG, "follows", "follows 0 1", "follows 0 > x", "breaks", "breaks 0", "breaks none",
            "rule", "rules?",
            "attempt", "at 0", "news", "copy", "batch", "steps 1", "version", "say book", "what", "ok", "0 > 1",
            "none", ">",
            "have " + "9" * 2900, "BOOK", "Closed 0", "closed 0\n1",
        ]:
            self.assertEqual(made.say(line), "what", line)
        self.assertEqual(answers(made, "book", "lot", "undo"), ["0 > 1 / 1 2 > 3 / 3 > 0", "0", "version 3"])

    def test_figures(self):
        made = self.filled()
        self.assertEqual(
            answers(made, "have " + LONG, "have 1" + LONG, "have " + "0" * 31, "have 0", "closed " + "9" * 31),
            ["no NotThing", "what", "what", "version 5", "no NotLot"],
        )

    def test_long_lines(self):
        made = self.filled()
        self.assertEqual(made.say("closed " + " ".join(["0"] * 1490)), "no NotLot")
        self.assertEqual(made.say("add " + " ".join(["0"] * 700) + " > " + " ".join(["1"] * 700)), "no NotRule")
        self.assertEqual(made.say("closed " + " ".join(["none"] * 500)), "what")


class TimeTest(unittest.TestCase):
    def test_calls_at_the_bounds(self):
        made = shell("new 10")
        for k in range(39):
            made.say(f"add {k % 5} {5 + k % 4} > {k % 3} 9")
        long = "closed " + "0 " * 1400 + "0"
        for line in ("book", "rounds", "spare", "tidy", "undo", "closed 0 1 2 3", "breaks 0 > 9", long):
            assert_quick(self, made.say, line, seconds=3)


if __name__ == "__main__":
    unittest.main()
