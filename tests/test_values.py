"""[A3]: an argument called value may be any value, and stays as it is."""

import copy
import unittest

from meetlots.boards import Board
from meetlots.errors import MeetError
from tests.test_interface import BY_NAME, function
from tests.values import ODD

PARTS = [None, True, False, 0, 1, -1, 10, 10 ** 399, "", "0", (), (0,), (True,), [], [0], {}, {0: (0,)}]


def changed(value):
    """Values that are a value but for one part."""
    found = list(PARTS)
    if isinstance(value, tuple):
        found += [list(value), value[1:], value + value, value[::-1], dict(enumerate(value))]
        for place, part in enumerate(value):
            found += [value[:place] + (other,) + value[place + 1:] for other in changed(part)]
    return found


class ValuesTest(unittest.TestCase):
    def test_any_value(self):
        told = [item for item in BY_NAME if "value" in item[2]]
        self.assertGreaterEqual(len(told), 22)
        for file, name, arguments in told:
            for value in ODD + changed(arguments["value"]):
                with self.subTest(file=file, name=name, value=repr(value)[:80]):
                    self.check(function(file, name), {**arguments, "value": value})

    def test_boards_as_values(self):
        board = Board((3, (((0,), (1,)),)))
        for file, name, arguments in BY_NAME:
            if "value" in arguments:
                for value in (board, (board,), (board, board), (board, ()), (3, board), ((board, board),), [board]):
                    with self.subTest(file=file, name=name, value=repr(value)):
                        self.answer(function(file, name), {**arguments, "value": value})
        self.assertEqual((board.book, board.lot, board.version), ((3, (((0,), (1,)),)), (), 0))

    def check(self, found, arguments):
        kept = copy.deepcopy(arguments)
        answers = [self.answer(found, arguments), self.answer(found, arguments)]
        self.assertEqual(repr(answers[0]), repr(answers[1]))
        self.assertEqual(repr(arguments), repr(kept))

    def answer(self, found, arguments):
        """What a call returns, or the error of the package that it raises; no other error may come."""
        try:
            return found(**arguments)
        except MeetError as error:
            return (type(error), vars(error))


if __name__ == "__main__":
    unittest.main()
