"""Books with few rules: spare rules, the stem, and rules of which one round is enough."""

from meetlots.books import parting
from meetlots.bounds import MAX_RULES
from meetlots.errors import NotAlike, TooMany
from meetlots.lots import rules_in_order
from meetlots.masks import brought, closures_of, holds, is_in, lot_of, mask_of, mask_rules, one_less, ordered_masks


def is_spare(rules, place):
    """Whether the rule at a place follows from all others."""
    ahead, behind = rules[place]
    return holds(rules[:place] + rules[place + 1:], ahead, behind)


def spare(book):
    """The places of all rules each of which follows from all others."""
    rules = mask_rules(book[1])
    return tuple([place for place in range(len(rules)) if is_spare(rules, place)])


def _shortened(rules, ahead, behind):
    """A rule without what it does not need ahead, and without what is ahead behind."""
    short = ahead
    for thing in lot_of(ahead):
        less = short - (1 << thing)
        if holds(rules, less, behind):
            short = less
    return (short, behind & ~short)


def _without_spare(rules):
    """What is left of rules when each one that is spare at its turn is left out."""
    place = 0
    while place < len(rules):
        if is_spare(rules, place):
            rules = rules[:place] + rules[place + 1:]
        else:
            place += 1
    return rules


def trimmed(book):
    """An alike book of short rules, none of them spare."""
    size, rules = book
    masks = mask_rules(rules)
    kept = _without_spare([_shortened(masks, ahead, behind) for ahead, behind in masks])
    return (size, rules_in_order([(lot_of(ahead), lot_of(behind)) for ahead, behind in kept]))


def _has_closures(pairs, mask):
    """Whether a lot has the closure of each lot of the pairs that is in it and is not it."""
    for near, closed in pairs:
        if near != mask and is_in(near, mask) and not is_in(closed, mask):
            return False
    return True


def near_pairs(size, closed):
    """For each nearly closed lot, in order, the pair of it and its closure, by the closures of all lots."""
    pairs = []
    for mask in ordered_masks(size):
        if closed[mask] != mask and _has_closures(pairs, mask):
            pairs.append((mask, closed[mask]))
    return pairs


def book_pairs(book):
    """For each lot nearly closed in a book, in order, the pair of it and its closure."""
    return near_pairs(book[0], closures_of(book))


def nearly_closed(book):
    """All nearly closed lots, in order."""
    return tuple([lot_of(pair[0]) for pair in book_pairs(book)])


def _swollen(pairs, mask):
    """What a lot swells to, by the pairs of the nearly closed lots and their closures."""
    while not _has_closures(pairs, mask):
        for near, closed in pairs:
            if near != mask and is_in(near, mask):
                mask = mask | closed
    return mask


def swell(book, lot):
    """The least lot over a lot that has the closures of the nearly closed lots in it but itself."""
    return lot_of(_swollen(book_pairs(book), mask_of(lot)))


def stem_of(size, closed):
    """The stem of the books of some closed lots, by the closures of all lots."""
    rules = tuple([(lot_of(near), lot_of(whole - near)) for near, whole in near_pairs(size, closed)])
    if len(rules) > MAX_RULES:
        raise TooMany(MAX_RULES)
    return (size, rules)


def stem(book):
    """The book of the rules of the nearly closed lots."""
    return stem_of(book[0], closures_of(book))


def fewest(book):
    """How many rules an alike book has at least."""
    return len(book_pairs(book))


def _owned(pairs, rules, near):
    """The places of the rules that swell to a nearly closed lot and lead out of it."""
    return tuple([
        place for place, (ahead, behind) in enumerate(rules)
        if not is_in(behind, near) and _swollen(pairs, ahead) == near
    ])


def owners(book, other):
    """For each rule of the stem the places of its like in an alike book."""
    lot = parting(book, other)
    if lot is not None:
        raise NotAlike(lot)
    pairs = book_pairs(book)
    rules = mask_rules(other[1])
    return tuple([_owned(pairs, rules, pair[0]) for pair in pairs])


def _least_made(closed, mask):
    """The things of which a lot is a least maker, by the closures of all lots."""
    known = mask
    # A lot with fewer things closes over no more, so those with one thing less are enough.
    for less in one_less(mask):
        known = known | closed[less]
    return closed[mask] & ~known


def direct(book):
    """The rules of the least makers, of which one round is enough."""
    closed = closures_of(book)
    made = [(mask, _least_made(closed, mask)) for mask in ordered_masks(book[0])]
    return tuple([(lot_of(mask), lot_of(things)) for mask, things in made if things])


def first_far(size, rules):
    """The first lot that one round of rules does not close, None if there is none."""
    found = brought(size, mask_rules(rules))
    for mask in ordered_masks(size):
        grown = mask | found[mask]
        if not is_in(found[grown], grown):
            return lot_of(mask)
    return None
