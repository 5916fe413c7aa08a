"""Makers: the least lots that have some closure."""

from meetlots.books import closed_lots, closure
from meetlots.errors import NotMaker
from meetlots.lots import is_lot, join, meet, without
from meetlots.masks import closures_of, fixed_masks, is_in, least_told, lot_of, lots_of
from meetlots.masks import mask_of, one_less, ordered_masks


def makers(book, lot):
    """All makers of a lot."""
    size = book[0]
    closed = closures_of(book)
    goal = closed[mask_of(lot)]
    return lots_of(least_told(size, [whole == goal for whole in closed]))


def keys(book):
    """All makers of the lot of all things."""
    return makers(book, tuple(range(book[0])))


def _next_masks(size, closed, goal):
    """The masks of the greatest closed lots that are in a closed one and are not it."""
    below = [mask for mask in fixed_masks(size, closed) if mask != goal and is_in(mask, goal)]
    return [
        mask for mask in below
        if all([closed[mask | (1 << thing)] == goal for thing in lot_of(goal - mask)])
    ]


def next_below(book, lot):
    """The greatest closed lots that are in the closure of a lot and are not it."""
    closed = closures_of(book)
    return lots_of(_next_masks(book[0], closed, closed[mask_of(lot)]))


def nonkeys(book):
    """The greatest closed lots but the lot of all things."""
    return next_below(book, tuple(range(book[0])))


def maker_error(book, lot, value):
    """None for a maker of a lot, else what keeps a value from being one."""
    if not is_lot(book[0], value):
        return "lot"
    outside = without(value, closure(book, lot))
    if outside:
        return ("outside", outside[0])
    short = without(closure(book, lot), closure(book, value))
    if short:
        return ("short", short[0])
    thing = spare_thing(book, value)
    if thing is not None:
        return ("spare", thing)
    return None


def spare_thing(book, lot):
    """The least thing of a lot that is in the closure of its other things, None if it is free."""
    for thing in lot:
        if thing in closure(book, without(lot, (thing,))):
            return thing
    return None


def _is_free(closed, mask):
    """Whether a mask without any of its things closes to less, by the closures of all lots."""
    return not any([closed[less] == closed[mask] for less in one_less(mask)])


def free_lots(book):
    """All free lots of a book."""
    closed = closures_of(book)
    return lots_of([mask for mask in ordered_masks(book[0]) if _is_free(closed, mask)])


def needed(book, lot):
    """The things that are in each maker of a lot."""
    return meet(book[0], makers(book, lot))


def never(book, lot):
    """The things of the closure of a lot that are in none of its makers."""
    return without(closure(book, lot), join(makers(book, lot)))


def maker_counts(book):
    """For each closed lot the pair of it and of how many makers it has."""
    closed = closures_of(book)
    counts = [0] * len(closed)
    # A free lot is a maker of its closure, and of no other closed lot.
    for mask, whole in enumerate(closed):
        if _is_free(closed, mask):
            counts[whole] += 1
    return tuple([(lot, counts[mask_of(lot)]) for lot in closed_lots(book)])


def left_by(book, lot, order):
    """What is left of the closure of a lot when things that it does not need are taken out by an order."""
    closed = closures_of(book)
    goal = closed[mask_of(lot)]
    left = goal
    for thing in order:
        less = left - (1 << thing)
        if closed[less] == goal:
            left = less
    return lot_of(left)


def order_for(book, lot, maker):
    """The first order by which a maker is left."""
    error = maker_error(book, lot, maker)
    if error is not None:
        raise NotMaker(error)
    closed = closures_of(book)
    goal = closed[mask_of(lot)]
    left = goal
    order = []
    waiting = list(lot_of(goal))
    while waiting:
        # A thing of the maker has to wait until what is left needs it; no other thing has to wait.
        fit = [x for x in waiting if x not in maker or closed[left - (1 << x)] != goal]
        thing = fit[0]
        if thing not in maker:
            left = left - (1 << thing)
        order.append(thing)
        waiting.remove(thing)
    return tuple(order)


def cheapest_maker(book, lot, weights):
    """The pair of the least worth of a maker of a lot, and of the first maker of this worth."""
    priced = [(sum([weights[thing] for thing in maker]), maker) for maker in makers(book, lot)]
    return min(priced, key=lambda pair: pair[0])
