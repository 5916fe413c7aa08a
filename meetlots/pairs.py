"""What two books have in common, two books side by side, and parts of a book."""

from meetlots.bounds import MAX_RULES, MAX_THINGS
from meetlots.errors import TooMany, Unfit
from meetlots.leastbooks import stem_of
from meetlots.maps import pulled
from meetlots.masks import all_of, closures, closures_of, images, lot_of, mask_of, mask_rules, source_of


def both(book, other):
    """The book of the lots that are closed in both of two books."""
    size, rules = book
    if size != other[0]:
        raise Unfit()
    return stem_of(size, closures(size, mask_rules(rules + other[1])))


def either(book, other):
    """The book of all meets of a closed lot of one book and a closed lot of another one."""
    if book[0] != other[0]:
        raise Unfit()
    found = [mine & theirs for mine, theirs in zip(closures_of(book), closures_of(other))]
    return stem_of(book[0], found)


def _raised(lot, many):
    """A lot with each thing raised by a number."""
    return tuple([thing + many for thing in lot])


def beside(book, other):
    """Two books side by side, the things of the second raised by the size of the first."""
    size, rules = book
    other_size, other_rules = other
    if size + other_size > MAX_THINGS:
        raise TooMany(MAX_THINGS)
    if len(rules) + len(other_rules) > MAX_RULES:
        raise TooMany(MAX_RULES)
    raised = tuple([(_raised(ahead, size), _raised(behind, size)) for ahead, behind in other_rules])
    return (size + other_size, rules + raised)


def part(book, lot):
    """The book of all meets of a closed lot with a lot, renumbered by this."""
    # A lot is a map from its places to its things; a source by it is a meet with it, renumbered.
    return pulled(book, lot)


def above(book, lot):
    """The book of all closed lots that have a lot, each without it, renumbered by the other things."""
    size = book[0]
    mask = mask_of(lot)
    rest = lot_of(all_of(size) - mask)
    closed = closures_of(book)
    return stem_of(len(rest), [source_of(rest, closed[goal | mask]) for goal in images(rest)])
