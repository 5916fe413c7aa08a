"""Learning books, and the orders in which their things can be taken off."""

from meetlots.books import closed_mask
from meetlots.bounds import MAX_ORDERS
from meetlots.errors import NotLearning, NotOrder, TooFar, TooMany
from meetlots.lots import in_order, without
from meetlots.maps import has_each_once
from meetlots.masks import all_of, closures_of, end_pairs, fixed_masks, lot_of, one_less, one_more
from meetlots.turns import greatest_without


def _first_brought(size, closed, mask):
    """The first two things with each of which a closed lot has the same closure, None if there are none."""
    things = lot_of(all_of(size) - mask)
    found = [closed[more] for more in one_more(size, mask)]
    for place, whole in enumerate(found):
        if whole in found[place + 1:]:
            return (things[place], things[found.index(whole, place + 1)])
    return None


def _clash(size, closed):
    """What keeps a book from being learning, None if nothing does, by the closures of all lots."""
    if closed[0]:
        thing = lot_of(closed[0])[0]
        return ((), thing, thing)
    for mask in fixed_masks(size, closed):
        pair = _first_brought(size, closed, mask)
        if pair is not None:
            return (lot_of(mask), pair[0], pair[1])
    return None


def is_learning(book):
    """Whether the empty lot is closed in a book and no two things bring each other."""
    return clash(book) is None


def clash(book):
    """What keeps a book from being learning, None if nothing does."""
    return _clash(book[0], closures_of(book))


def learned(book):
    """The closures of all lots in a book that has to be learning."""
    closed = closures_of(book)
    paper = _clash(book[0], closed)
    if paper is not None:
        raise NotLearning(paper)
    return closed


def ends(book, lot):
    """The things of a closed lot without each of which alone it is closed, too."""
    closed = closures_of(book)
    mask = closed_mask(closed, lot)
    return tuple([thing for thing, _ in end_pairs(closed, mask)])


def is_order(book, value):
    """Whether a value is an order of a learning book."""
    return keeps_order(book[0], learned(book), value)


def keeps_order(size, closed, value):
    """Whether a value is an order, by the closures of all lots of a size."""
    return has_each_once(size, value) and _first_open(closed, value) is None


def _first_open(closed, order):
    """The least place from which on the things of an order are not closed, None if there is none."""
    mask = all_of(len(order))
    for place, thing in enumerate(order):
        if closed[mask] != mask:
            return place
        mask = mask - (1 << thing)
    return None


def way_counts(closed):
    """For each closed mask in how many ways it can be taken off thing by thing, each time to a closed one.

    For all others, and where the empty mask is not closed, these are 0.
    """
    counts = [0] * len(closed)
    counts[0] = 1 if closed[0] == 0 else 0
    for mask in range(1, len(closed)):
        if closed[mask] == mask:
            counts[mask] = sum([counts[less] for less in one_less(mask)])
    return counts


def order_count(book):
    """How many orders a learning book has."""
    return way_counts(learned(book))[-1]


def orders(book):
    """All orders of a learning book."""
    counts = way_counts(learned(book))
    if counts[-1] > MAX_ORDERS:
        raise TooMany(MAX_ORDERS)
    found = [((), len(counts) - 1)]
    for _ in range(book[0]):
        found = [
            (order + (thing,), mask - (1 << thing))
            for order, mask in found for thing in lot_of(mask) if counts[mask - (1 << thing)]
        ]
    return tuple([order for order, mask in found])


def nth_order(book, place):
    """The order of a learning book at a place."""
    counts = way_counts(learned(book))
    if place >= counts[-1]:
        raise TooFar(counts[-1])
    mask = len(counts) - 1
    order = []
    while mask:
        things = list(lot_of(mask))
        # The orders that go on with lesser things stand ahead.
        while place >= counts[mask - (1 << things[0])]:
            place -= counts[mask - (1 << things[0])]
            del things[0]
        order.append(things[0])
        mask = mask - (1 << things[0])
    return tuple(order)


def order_place(book, order):
    """The place of an order of a learning book."""
    closed = learned(book)
    least = _first_open(closed, order)
    if least is not None:
        raise NotOrder(least)
    counts = way_counts(closed)
    mask = len(counts) - 1
    place = 0
    for thing in order:
        place += sum([counts[mask - (1 << other)] for other in lot_of(mask) if other < thing])
        mask = mask - (1 << thing)
    return place


def ways(book, thing):
    """The least open lots of a learning book that have a thing."""
    learned(book)
    everything = tuple(range(book[0]))
    # What a greatest closed lot without the thing lacks is a least open lot with it.
    return in_order([without(everything, lot) for lot in greatest_without(book, thing)])
