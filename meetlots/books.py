"""Closed lots of a book, and the rules that follow from it."""

from meetlots.errors import NotClosed, Unfit
from meetlots.lots import is_below
from meetlots.masks import close, closures_of, first_apart, fixed_lots, holds, is_in
from meetlots.masks import lot_of, mask_of, mask_rules, one_round


def closure(book, lot):
    """The least closed lot that a lot is in."""
    return lot_of(close(mask_rules(book[1]), mask_of(lot)))


def is_closed(book, lot):
    """Whether a lot keeps all rules of a book."""
    return closure(book, lot) == lot


def rounds(book, lot):
    """The lots from a lot to its closure, each a round of the rules behind the one ahead of it."""
    rules = mask_rules(book[1])
    mask = mask_of(lot)
    found = [lot]
    grown = one_round(rules, mask)
    while grown != mask:
        mask = grown
        found.append(lot_of(mask))
        grown = one_round(rules, mask)
    return tuple(found)


def closed_lots(book):
    """All closed lots of a book, in order."""
    return fixed_lots(book[0], closures_of(book))


def closed_mask(closed, lot):
    """The mask of a lot that has to be closed, by the closures of all lots."""
    mask = mask_of(lot)
    if closed[mask] != mask:
        raise NotClosed(lot)
    return mask


def follows(book, rule):
    """Whether all closed lots of a book keep a rule."""
    ahead, behind = rule
    return holds(mask_rules(book[1]), mask_of(ahead), mask_of(behind))


def breaking(book, rule):
    """The first closed lot that breaks a rule, None if it follows."""
    ahead, behind = rule
    # The closure of ahead is in all closed lots that have ahead, so it is the first of them.
    first = close(mask_rules(book[1]), mask_of(ahead))
    if is_in(mask_of(behind), first):
        return None
    return lot_of(first)


def _reaches(rules, mask, goal, places):
    """Whether the rules at some places can be used one behind the other from a lot, up to a goal."""
    for place in places:
        ahead, behind = rules[place]
        if not is_in(ahead, mask):
            return False
        mask = mask | behind
    return is_in(goal, mask)


def _first_steps(rules, mask, goal):
    """Places of rules by which a goal is reached from a lot, short or not."""
    places = []
    while not is_in(goal, mask):
        for place, (ahead, behind) in enumerate(rules):
            if is_in(ahead, mask) and not is_in(behind, mask):
                mask = mask | behind
                places.append(place)
    return places


def _short(rules, mask, goal, places):
    """Those of some places without which a goal is not reached."""
    kept = places
    # From the last one on: what is left out later stands ahead, so it makes no kept place needless.
    for place in reversed(list(places)):
        fewer = [other for other in kept if other != place]
        if _reaches(rules, mask, goal, fewer):
            kept = fewer
    return kept


def steps(book, lot, thing):
    """Short steps from a lot to a thing, None if it is not in the closure."""
    rules = mask_rules(book[1])
    mask = mask_of(lot)
    goal = 1 << thing
    if not holds(rules, mask, goal):
        return None
    return tuple(_short(rules, mask, goal, _first_steps(rules, mask, goal)))


def _are_places(many, value):
    """Whether a value is a tuple of places below a number, none twice."""
    if not isinstance(value, tuple):
        return False
    if any([not is_below(many, item) for item in value]):
        return False
    return len(set(value)) == len(value)


def steps_hold(book, lot, thing, value):
    """Whether a value is steps from a lot to a thing, short or not."""
    rules = mask_rules(book[1])
    if not _are_places(len(rules), value):
        return False
    return _reaches(rules, mask_of(lot), 1 << thing, value)


def alike(book, other):
    """Whether the same lots are closed in two books."""
    return parting(book, other) is None


def parting(book, other):
    """The first lot that is closed in just one of two books, None if they are alike."""
    if book[0] != other[0]:
        raise Unfit()
    return first_apart(book[0], closures_of(book), closures_of(other))
