"""The errors of the package: each keeps what it was made with."""


class MeetError(ValueError):
    """What all errors of the package are."""


class Unfit(MeetError):
    """These do not fit one another."""

    def __init__(self):
        super().__init__("these do not fit one another")


class TooMany(MeetError):
    """There would be more than a bound allows."""

    def __init__(self, limit):
        super().__init__("more than the bound allows")
        self.limit = limit


class BadText(MeetError):
    """A value is the text of no book, or of no table."""

    def __init__(self, line):
        super().__init__("a line is not as it has to be")
        self.line = line


class NotClosed(MeetError):
    """A lot is not closed in the book."""

    def __init__(self, lot):
        super().__init__("the lot is not closed")
        self.lot = lot


class NotAlike(MeetError):
    """Two books are not alike: the lot is closed in just one of them."""

    def __init__(self, lot):
        super().__init__("the books are not alike")
        self.lot = lot


class NotMaker(MeetError):
    """A lot is no maker; the error tells why."""

    def __init__(self, error):
        super().__init__("the lot is no maker")
        self.error = error


class BadReach(MeetError):
    """A value is the reach of no book; the error tells why."""

    def __init__(self, error):
        super().__init__("the value is the reach of no book")
        self.error = error


class NotLearning(MeetError):
    """A book is not learning; the paper shows it."""

    def __init__(self, paper):
        super().__init__("the book is not learning")
        self.paper = paper


class NotOrder(MeetError):
    """From a place on the things of a row are not closed."""

    def __init__(self, place):
        super().__init__("the things are in no order of the book")
        self.place = place


class TooFar(MeetError):
    """A place is not below the count of what there is."""

    def __init__(self, count):
        super().__init__("the place is not below the count")
        self.count = count


class InRing(MeetError):
    """A thing lies under itself."""

    def __init__(self, thing):
        super().__init__("a thing lies under itself")
        self.thing = thing


class NotSingle(MeetError):
    """A book is not single: the join of the pair is not closed."""

    def __init__(self, pair):
        super().__init__("the book is not single")
        self.pair = pair


class NoClimb(MeetError):
    """A book has no climb; the lot shows it."""

    def __init__(self, lot):
        super().__init__("the book has no climb")
        self.lot = lot


class BadBook(MeetError):
    """A value is no book; the error tells why."""

    def __init__(self, error):
        super().__init__("the value is no book")
        self.error = error


class NoRule(MeetError):
    """There is no rule at an index."""

    def __init__(self, index):
        super().__init__("there is no rule at this index")
        self.index = index


class NotRule(MeetError):
    """A value is no rule of the size."""

    def __init__(self, value):
        super().__init__("the value is no rule of the size")
        self.value = value


class NotLot(MeetError):
    """A value is no lot of the size."""

    def __init__(self, value):
        super().__init__("the value is no lot of the size")
        self.value = value


class NotThing(MeetError):
    """A value is no thing of the size."""

    def __init__(self, value):
        super().__init__("the value is no thing of the size")
        self.value = value


class BadBatch(MeetError):
    """A value is no batch of edits."""

    def __init__(self):
        super().__init__("the value is no batch of edits")


class Rejected(MeetError):
    """The edit at an index of a batch raised an error."""

    def __init__(self, index):
        super().__init__("an edit of the batch raised an error")
        self.index = index


class TooManyEdits(MeetError):
    """As many edits stand as may."""

    def __init__(self):
        super().__init__("as many edits stand as may")


class NothingToUndo(MeetError):
    """No edit stands."""

    def __init__(self):
        super().__init__("no edit stands")


class NothingToRedo(MeetError):
    """No edit is taken back."""

    def __init__(self):
        super().__init__("no edit is taken back")


class NoVersion(MeetError):
    """There is no version of a board with a number."""

    def __init__(self, given):
        super().__init__("there is no such version")
        self.given = given


class Changed(MeetError):
    """Behind an edit other lots would be closed; the lot shows it."""

    def __init__(self, lot):
        super().__init__("other lots would be closed")
        self.lot = lot
