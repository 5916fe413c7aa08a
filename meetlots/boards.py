"""Boards: a book and a held lot, changed by edits that can be taken back."""

from meetlots.books import breaking, closure, follows, is_closed, parting, rounds, steps
from meetlots.bounds import BATCH, MAX_EDITS, MAX_RULES
from meetlots.errors import BadBatch, BadBook, Changed, MeetError, NoRule, NothingToRedo, NothingToUndo
from meetlots.errors import NotLot, NotRule, NotThing, NoVersion, Rejected, TooMany, TooManyEdits
from meetlots.leastbooks import is_spare, spare
from meetlots.lots import book_error, is_below, is_lot, is_rule, join, without
from meetlots.masks import closures_of, fixed_masks, lots_of, mask_rules
from meetlots.texts import book_text

# The words of the edits, each with how many further items it has in a batch.
_EDITS = (("add", 1), ("drop", 1), ("put", 2), ("have", 1), ("lose", 1), ("grow", 0), ("tidy", 0))


def _check_rule(size, value):
    """Raises NotRule for what is no rule of a size."""
    if not is_rule(size, value):
        raise NotRule(value)


def _check_index(rules, value):
    """Raises NoRule for what is no place of a rule."""
    if not is_below(len(rules), value):
        raise NoRule(value)


def _check_thing(size, value):
    """Raises NotThing for what is no thing of a size."""
    if not is_below(size, value):
        raise NotThing(value)


def _with_rule(size, rules, rule):
    """The rules with one behind them."""
    _check_rule(size, rule)
    if len(rules) >= MAX_RULES:
        raise TooMany(MAX_RULES)
    return rules + (rule,)


def _without_rule(rules, index):
    """The rules without the one at an index."""
    _check_index(rules, index)
    return rules[:index] + rules[index + 1:]


def _with_other(size, rules, index, rule):
    """The rules with another one at an index."""
    _check_index(rules, index)
    _check_rule(size, rule)
    return rules[:index] + (rule,) + rules[index + 1:]


def _tidied(rules):
    """What is left of the rules if each, from the last one on, is left out that follows from all others."""
    masks = mask_rules(rules)
    for place in reversed(range(len(rules))):
        if is_spare(masks, place):
            masks = masks[:place] + masks[place + 1:]
            rules = rules[:place] + rules[place + 1:]
    return rules


def _new_rules(size, rules, edit):
    """The rules behind an edit."""
    word = edit[0]
    if word == "add":
        return _with_rule(size, rules, edit[1])
    if word == "drop":
        return _without_rule(rules, edit[1])
    if word == "put":
        return _with_other(size, rules, edit[1], edit[2])
    if word == "tidy":
        return _tidied(rules)
    return rules


def _new_lot(size, rules, lot, edit):
    """The held lot behind an edit."""
    word = edit[0]
    if word == "grow":
        return closure((size, rules), lot)
    if word not in ("have", "lose"):
        return lot
    _check_thing(size, edit[1])
    if word == "have":
        return join((lot, (edit[1],)))
    return without(lot, (edit[1],))


def _edited(size, rules, lot, edit):
    """The rules and the held lot behind an edit, which is told as batches have it."""
    return (_new_rules(size, rules, edit), _new_lot(size, rules, lot, edit))


def _is_edit(value):
    """Whether a value is an edit as batches have it, whatever its further items are."""
    return isinstance(value, tuple) and len(value) > 0 and (value[0], len(value) - 1) in _EDITS


def _is_batch(value):
    """Whether a value is a batch of edits."""
    return isinstance(value, tuple) and len(value) <= BATCH and all([_is_edit(edit) for edit in value])


def _closed_alone(book, other):
    """All lots that are closed in one book and not in another one, in order."""
    closed = closures_of(other)
    return lots_of([mask for mask in fixed_masks(book[0], closures_of(book)) if closed[mask] != mask])


class Board:
    """A book and a held lot, changed by edits; the size stays."""

    def __init__(self, value):
        error = book_error(value)
        if error is not None:
            raise BadBook(error)
        self._size = value[0]
        self._rules = value[1]
        self._lot = ()
        # Pairs of rules and held lot: ahead of each edit that stands, and behind each one taken back.
        self._past = ()
        self._undone = ()
        # The rules ahead of the last change, for news.
        self._former = value[1]

    @property
    def book(self):
        """The book."""
        return (self._size, self._rules)

    @property
    def lot(self):
        """The held lot."""
        return self._lot

    @lot.setter
    def lot(self, value):
        # Some errors assign an attribute of this name, so the property must have a setter; a board lets none in.
        raise AttributeError("the held lot can only be read")

    @property
    def version(self):
        """How many edits stand."""
        return len(self._past)

    def __len__(self):
        return len(self._rules)

    def __getitem__(self, index):
        _check_index(self._rules, index)
        return self._rules[index]

    def __contains__(self, value):
        return is_rule(self._size, value) and value in self._rules

    def __iter__(self):
        return iter(self._rules)

    def __str__(self):
        return str(book_text((self._size, self._rules)))

    def __eq__(self, other):
        return (
            isinstance(other, Board) and self._size == other._size
            and self._rules == other._rules and self._lot == other._lot
        )

    def closure(self):
        """The closure of the held lot."""
        return closure(self.book, self._lot)

    def rounds(self):
        """The lots from the held lot to its closure, round by round."""
        return rounds(self.book, self._lot)

    def spare(self):
        """The places of the rules each of which follows from all others."""
        return spare(self.book)

    def closed(self, lot):
        """Whether a lot is closed."""
        if not is_lot(self._size, lot):
            raise NotLot(lot)
        return is_closed(self.book, lot)

    def steps(self, thing):
        """Steps from the held lot to a thing, None if it is not in the closure."""
        _check_thing(self._size, thing)
        return steps(self.book, self._lot, thing)

    def follows(self, rule):
        """Whether a rule follows."""
        _check_rule(self._size, rule)
        return follows(self.book, rule)

    def breaking(self, rule):
        """The first closed lot that breaks a rule, None if it follows."""
        _check_rule(self._size, rule)
        return breaking(self.book, rule)

    def add(self, rule):
        """Puts a rule behind the others."""
        return self._edit(("add", rule))

    def drop(self, index):
        """Leaves a rule out."""
        return self._edit(("drop", index))

    def put(self, index, rule):
        """Puts a rule in the place of another one."""
        return self._edit(("put", index, rule))

    def have(self, thing):
        """The held lot has a thing from then on."""
        return self._edit(("have", thing))

    def lose(self, thing):
        """The held lot does not have a thing from then on."""
        return self._edit(("lose", thing))

    def grow(self):
        """The held lot becomes its closure."""
        return self._edit(("grow",))

    def tidy(self):
        """Leaves out, from the last rule on, each one that follows from all that are still there but itself."""
        return self._edit(("tidy",))

    def batch(self, edits):
        """Does some edits in order, as one edit."""
        if not _is_batch(edits):
            raise BadBatch()
        rules, lot = self._rules, self._lot
        for place, edit in enumerate(edits):
            try:
                rules, lot = _edited(self._size, rules, lot, edit)
            except MeetError:
                raise Rejected(place) from None
        return self._stand(rules, lot)

    def undo(self):
        """Takes back the last edit that stands."""
        if not self._past:
            raise NothingToUndo()
        rules, lot = self._past[-1]
        self._past = self._past[:-1]
        self._undone = self._undone + ((self._rules, self._lot),)
        return self._change(rules, lot)

    def redo(self):
        """Does the edit again that was taken back last."""
        if not self._undone:
            raise NothingToRedo()
        rules, lot = self._undone[-1]
        self._undone = self._undone[:-1]
        self._past = self._past + ((self._rules, self._lot),)
        return self._change(rules, lot)

    def at(self, version):
        """The book and the held lot when so many edits stood."""
        if not is_below(self.version + 1, version):
            raise NoVersion(version)
        rules, lot = (self._past + ((self._rules, self._lot),))[version]
        return ((self._size, rules), lot)

    def news(self):
        """The lots that ceased to be closed by the last edit, undo or redo, and those that are closed since."""
        former = (self._size, self._former)
        return (_closed_alone(former, self.book), _closed_alone(self.book, former))

    def copy(self):
        """A board of its own that is as this one is."""
        return self._lend(Board(self.book))

    def attempt(self, work):
        """What work returns for this board; if it raises a MeetError, the board is as ahead of it."""
        kept = self._state()
        try:
            return work(self)
        except MeetError:
            self._restore(kept)
            raise

    def _edit(self, edit):
        """Does an edit, which is told as batches have it."""
        rules, lot = _edited(self._size, self._rules, self._lot, edit)
        return self._stand(rules, lot)

    def _stand(self, rules, lot):
        """What an edit comes to stands from then on, if not too many edits do already."""
        if len(self._past) >= MAX_EDITS:
            raise TooManyEdits()
        self._past = self._past + ((self._rules, self._lot),)
        self._undone = ()
        return self._change(rules, lot)

    def _change(self, rules, lot):
        """The board has these rules and this held lot from then on; returns the version."""
        self._former = self._rules
        self._rules = rules
        self._lot = lot
        return self.version

    def _state(self):
        """All of the board but its size."""
        return (self._rules, self._lot, self._past, self._undone, self._former)

    def _restore(self, state):
        """The board is from then on as it was when it told this state."""
        self._rules, self._lot, self._past, self._undone, self._former = state

    def _lend(self, other):
        """Another board of this size, which is from then on as this one is."""
        other._restore(self._state())
        return other


class KeptBoard(Board):
    """A board whose closed lots stay."""

    def __init__(self, value):
        # The interface lists it for this class, so it stands here, too.
        super().__init__(value)

    def copy(self):
        """A board of its own that is as this one is."""
        return self._lend(KeptBoard(self.book))

    def _stand(self, rules, lot):
        """As for any board, if the book stays alike."""
        parted = parting(self.book, (self._size, rules))
        if parted is not None:
            raise Changed(parted)
        return super()._stand(rules, lot)
