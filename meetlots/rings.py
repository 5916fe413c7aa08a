"""Rings, by which learning books are told."""

from meetlots.bounds import MAX_RULES
from meetlots.errors import TooMany
from meetlots.learning import learned
from meetlots.lots import is_below, is_lot
from meetlots.masks import brought, is_in, mask_of
from meetlots.turns import rules_for


def rings(book):
    """All rings of a learning book."""
    learned(book)
    return tuple([(root, rest) for root in range(book[0]) for rest, behind in rules_for(book, root)])


def book_of_rings(size, rings):
    """The book that has a rule for each of some rings."""
    if len(rings) > MAX_RULES:
        raise TooMany(MAX_RULES)
    return (size, tuple([(rest, (root,)) for root, rest in rings]))


def _is_ring(size, value):
    """Whether a value is a ring of a size."""
    if not isinstance(value, tuple) or len(value) != 2:
        return False
    root, rest = value
    if not is_below(size, root) or not is_lot(size, rest):
        return False
    return len(rest) > 0 and root not in rest


def _ring_key(ring):
    """What a ring is put in order by."""
    root, rest = ring
    return (root, len(rest), rest)


def _first_wrong(size, value):
    """The first place of what is no ring, or is not behind the one ahead of it; None if there is none."""
    for place, item in enumerate(value):
        if not _is_ring(size, item):
            return place
        if place > 0 and _ring_key(item) <= _ring_key(value[place - 1]):
            return place
    return None


def _exclude(known, ring, other):
    """Whether two rings, their rests as masks, are not both among all rings of a learning book.

    known tells, for each root and each mask, whether some ring has this root and a rest in the mask.
    """
    root, rest = ring
    goal, further = other
    if root == goal:
        return is_in(rest, further)
    bit = 1 << root
    if not further & bit:
        return False
    # No ring has its root in its rest, so it does not matter whether the other root is among these.
    return not known[goal][(rest | further) - bit]


def ring_error(size, value):
    """None for all rings of a learning book of a size, else what keeps a value from being them."""
    if not isinstance(value, tuple):
        return "rings"
    wrong = _first_wrong(size, value)
    if wrong is not None:
        return wrong
    masks = [(root, mask_of(rest)) for root, rest in value]
    known = [brought(size, [(rest, 1) for other, rest in masks if other == root]) for root in range(size)]
    for place, ring in enumerate(masks):
        for further, other in enumerate(masks):
            if place != further and _exclude(known, ring, other):
                return (place, further)
    return None
