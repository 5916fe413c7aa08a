"""A shell: lines of words that are told to a board, and what it answers."""

from meetlots.boards import Board
from meetlots.bounds import MAX_THINGS
from meetlots.errors import MeetError
from meetlots.texts import lot_text, rule_text

_MAX_FIGURES = 31

# The words of the lines that are told to a board, by what stands behind them; "put" has a number and a rule.
_ALONE = ("grow", "tidy", "undo", "redo", "book", "rules", "lot", "closure", "rounds", "spare")
_WITH_NUMBER = ("drop", "have", "lose")
_WITH_RULE = ("add", "follows", "breaks")
_WITH_LOT = ("closed",)
_EDITS = ("add", "drop", "put", "have", "lose", "grow", "tidy", "undo", "redo")


def _number(word):
    """The number that a word tells, None if it tells none."""
    if len(word) > _MAX_FIGURES or any([sign not in "0123456789" for sign in word]):
        return None
    if word[0] == "0" and word != "0":
        return None
    return int(word)


def _read_number(words):
    """The number that some words tell, None if they tell none."""
    return _number(words[0]) if len(words) == 1 else None


def _read_lot(words):
    """What some words tell as a lot, ascending or not; None if they tell none."""
    if words == ["none"]:
        return ()
    numbers = [_number(word) for word in words]
    if not numbers or None in numbers:
        return None
    return tuple(numbers)


def _read_rule(words):
    """What some words tell as a rule, None if they tell none."""
    if words.count(">") != 1:
        return None
    place = words.index(">")
    ahead, behind = _read_lot(words[:place]), _read_lot(words[place + 1:])
    if ahead is None or behind is None:
        return None
    return (ahead, behind)


def _read(word, words):
    """What stands behind the first word of a line, as a list; it has None where it is not as it has to be."""
    if word == "put":
        return [_read_number(words[:1]), _read_rule(words[1:])]
    if word in _WITH_NUMBER:
        return [_read_number(words)]
    if word in _WITH_RULE:
        return [_read_rule(words)]
    if word in _WITH_LOT:
        return [_read_lot(words)]
    return [None] if words else []


def _edit(board, word, given):
    """Does an edit, an undo or a redo, and returns the version then."""
    if word == "add":
        return board.add(given[0])
    if word == "drop":
        return board.drop(given[0])
    if word == "put":
        return board.put(given[0], given[1])
    if word == "have":
        return board.have(given[0])
    if word == "lose":
        return board.lose(given[0])
    if word == "grow":
        return board.grow()
    if word == "tidy":
        return board.tidy()
    if word == "undo":
        return board.undo()
    return board.redo()


def _tell(board, word):
    """The answer to a line of one word that asks for something of a board."""
    if word == "book":
        return " / ".join([rule_text(rule) for rule in board]) if len(board) > 0 else "no rules"
    if word == "rules":
        return str(len(board))
    if word == "lot":
        return lot_text(board.lot)
    if word == "closure":
        return lot_text(board.closure())
    if word == "rounds":
        return " / ".join([lot_text(lot) for lot in board.rounds()])
    # Places are told as things are.
    return lot_text(board.spare())


def _judge(board, word, item):
    """The answer to a line that asks what a board says of a lot or of a rule."""
    if word == "breaks":
        lot = board.breaking(item)
        return "no lot" if lot is None else lot_text(lot)
    holds = board.closed(item) if word == "closed" else board.follows(item)
    return "yes" if holds else "no"


def _answer(board, word, given):
    """The answer to a line, by its first word and what stands behind it."""
    if word in _EDITS:
        return "version " + str(_edit(board, word, given))
    if word in _ALONE:
        return _tell(board, word)
    return _judge(board, word, given[0])


class Shell:
    """Tells lines to a board, which it has from the first good "new" on."""

    def __init__(self):
        self._board = None

    def say(self, line):
        """The answer to a line; any value may be one."""
        words = line.split(" ") if isinstance(line, str) else [""]
        if "" in words:
            return "what"
        if words[0] == "new":
            return self._renew(_read_number(words[1:]))
        if words[0] not in _ALONE + _WITH_NUMBER + _WITH_RULE + _WITH_LOT + ("put",):
            return "what"
        if self._board is None:
            return "no board"
        given = _read(words[0], words[1:])
        if None in given:
            return "what"
        try:
            return _answer(self._board, words[0], given)
        except MeetError as error:
            return "no " + type(error).__name__

    def _renew(self, size):
        """Has a new board of a size from then on, if this is one."""
        if size is None or size > MAX_THINGS:
            return "what"
        self._board = Board((size, ()))
        return "ok"
