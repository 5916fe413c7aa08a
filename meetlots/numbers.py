"""Numbers of learning books: how few things or lots are enough to see something of many."""

from meetlots.books import closed_mask
from meetlots.learning import learned
from meetlots.lots import is_below, is_lot, meet, without
from meetlots.masks import fixed_masks, least_told, lot_of, lots_of, mask_of, one_less, ordered_masks, parts_of
from meetlots.tables import meet_of


def _first_of_most(masks):
    """The first lot of those that have the most things, of masks that are in order."""
    lots = lots_of(masks)
    return [lot for lot in lots if len(lot) == len(lots[-1])][0]


def greatest_free(book):
    """The first one of the greatest closed lots in which each lot is closed."""
    closed = learned(book)
    return _first_of_most([
        mask for mask in fixed_masks(book[0], closed)
        if all([closed[less] == less for less in one_less(mask)])
    ])


def helly_lots(book):
    """As many closed lots as the Helly number that do not meet, while all but any one of them do."""
    whole = greatest_free(book)
    return tuple([without(whole, (thing,)) for thing in whole])


def helly_holds(book, value):
    """Whether a value is closed lots that do not meet, while all but any one of them do."""
    size = book[0]
    closed = learned(book)
    # All but one of such lots have a thing in common, another one each time, so there are no more than things.
    if not isinstance(value, tuple) or not 0 < len(value) <= size:
        return False
    if any([not is_lot(size, lot) or closed[mask_of(lot)] != mask_of(lot) for lot in value]):
        return False
    fewer = [value[:place] + value[place + 1:] for place in range(len(value))]
    return not meet(size, value) and all([meet(size, lots) for lots in fewer])


def few_apart(book, lots):
    """The first places of as few of some closed lots as do not meet, None if all meet."""
    size = book[0]
    closed = learned(book)
    for lot in lots:
        closed_mask(closed, lot)
    if meet(size, lots):
        return None
    choices = lots_of(ordered_masks(len(lots)))
    return [places for places in choices if not meet_of((size, lots), places)][0]


def carried(book, lot, thing):
    """The first lot in a lot in whose closure a thing is, None if there is none."""
    closed = learned(book)
    for part in parts_of(mask_of(lot)):
        if closed[part] & (1 << thing):
            return lot_of(part)
    return None


def few_makers(book):
    """How many things are always enough to carry one, with the first pair that shows that fewer are not."""
    size = book[0]
    closed = learned(book)
    found = [
        (lot_of(mask), thing) for thing in range(size)
        for mask in least_told(size, [whole & (1 << thing) for whole in closed])
    ]
    if not found:
        return (0, None)
    number = max([len(lot) for lot, thing in found])
    lot, thing = min([pair for pair in found if len(pair[0]) == number])
    return (number, (thing, lot))


def _parts_apart(closed, mask):
    """The first masks that part a mask, the one with its least thing ahead, and what their closures share."""
    least = mask & -mask
    for left in parts_of(mask):
        common = closed[left] & closed[mask - left]
        if left & least and common:
            return (left, mask - left, common)
    return None


def parted(book, lot):
    """The first triple that parts a lot, None if there is none."""
    found = _parts_apart(learned(book), mask_of(lot))
    if found is None:
        return None
    left, right, common = lots_of(found)
    return (left, right, common[0])


def parted_holds(book, lot, value):
    """Whether a value parts a lot."""
    size = book[0]
    closed = learned(book)
    if not isinstance(value, tuple) or len(value) != 3:
        return False
    if not is_lot(size, value[0]) or not is_lot(size, value[1]) or not is_below(size, value[2]):
        return False
    left, right = mask_of(value[0]), mask_of(value[1])
    if left & right or left | right != mask_of(lot):
        return False
    return value[2] in lot_of(closed[left] & closed[right])


def greatest_whole(book):
    """The first one of the greatest lots that can't be parted."""
    closed = learned(book)
    return _first_of_most([mask for mask in ordered_masks(book[0]) if _parts_apart(closed, mask) is None])


def numbers(book):
    """The Helly number, the number of few_makers, and how many things greatest_whole has."""
    return (len(greatest_free(book)), few_makers(book)[0], len(greatest_whole(book)))
