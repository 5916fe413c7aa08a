"""Renamings: books that are alike but for the names of their things."""

from meetlots.bounds import MAX_NAMED
from meetlots.errors import TooMany, Unfit
from meetlots.leastbooks import book_pairs
from meetlots.maps import led
from meetlots.masks import images, lot_of, ordered_masks
from meetlots.texts import lot_text


def renamed(book, naming):
    """The book with each thing's new one in its stead."""
    size, rules = book
    return (size, tuple([(led(naming, ahead), led(naming, behind)) for ahead, behind in rules]))


def _check_named(book):
    """Raises TooMany for a book of more things than are renamed in all ways."""
    if book[0] > MAX_NAMED:
        raise TooMany(MAX_NAMED)


def _namings(size):
    """All renamings of a size, in order."""
    found = [()]
    for _ in range(size):
        found = [naming + (name,) for naming in found for name in range(size) if name not in naming]
    return found


def _fits(pairs, goals, naming):
    """Whether a renaming leads each nearly closed lot and its closure to such of another book."""
    found = images(naming)
    for near, whole in pairs:
        if goals.get(found[near]) != found[whole]:
            return False
    return True


def renaming(book, other):
    """The first renaming by which a book becomes one that is alike to another, None if there is none."""
    if book[0] != other[0]:
        raise Unfit()
    _check_named(book)
    pairs = book_pairs(book)
    goals = dict(book_pairs(other))
    # With as many on both sides each is led to, so the stems become the same.
    if len(pairs) != len(goals):
        return None
    for naming in _namings(book[0]):
        if _fits(pairs, goals, naming):
            return naming
    return None


def sames(book):
    """All renamings by which a book becomes one that is alike to itself."""
    _check_named(book)
    pairs = book_pairs(book)
    goals = dict(pairs)
    return tuple([naming for naming in _namings(book[0]) if _fits(pairs, goals, naming)])


def normal(book):
    """The least text of a stem that a book has by any renaming."""
    _check_named(book)
    size = book[0]
    order = ordered_masks(size)
    places = {mask: place for place, mask in enumerate(order)}
    words = [lot_text(lot_of(mask)) for mask in range(1 << size)]
    rules = [(near, whole - near) for near, whole in book_pairs(book)]
    texts = []
    for naming in _namings(size):
        found = images(naming)
        # No two rules of a stem have the same lot ahead, so the places of these put them in order.
        told = sorted([(places[found[ahead]], words[found[behind]]) for ahead, behind in rules])
        lines = [words[order[place]] + " > " + behind for place, behind in told]
        texts.append("\n".join([str(size)] + lines))
    return min(texts)
