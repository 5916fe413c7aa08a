"""From books to tables and back: irreducible lots, and the least lots that hit others."""

from meetlots.books import closed_mask
from meetlots.bounds import MAX_ROWS
from meetlots.errors import TooMany, Unfit
from meetlots.leastbooks import stem_of
from meetlots.lots import in_order
from meetlots.masks import all_of, brought, closures_of, first_apart, fixed_masks, is_in, least_meets
from meetlots.masks import least_told, lot_of, lots_of, mask_of, meets_of, one_less, one_more


def _meet_above(size, closed, mask):
    """The meet of all closed lots that are greater than a closed one, by the closures of all lots."""
    found = all_of(size)
    for more in one_more(size, mask):
        found = found & closed[more]
    return found


def irreducible_masks(size, closed):
    """The masks of the irreducible lots, in order, by the closures of all lots."""
    return [mask for mask in fixed_masks(size, closed) if _meet_above(size, closed, mask) != mask]


def _least_rows(size, closed):
    """The table of the irreducible lots, by the closures of all lots."""
    rows = lots_of(irreducible_masks(size, closed))
    if len(rows) > MAX_ROWS:
        raise TooMany(MAX_ROWS)
    return (size, rows)


def table_of(book):
    """The table of the irreducible lots of a book."""
    return _least_rows(book[0], closures_of(book))


def only_above(book, lot):
    """The one closed lot over a closed one that is in all others over it, None if there is none."""
    closed = closures_of(book)
    mask = closed_mask(closed, lot)
    above = _meet_above(book[0], closed, mask)
    if above == mask:
        return None
    return lot_of(above)


def book_of(table):
    """The stem of the books whose closed lots are the meets of a table."""
    return stem_of(table[0], meets_of(table))


def lacking(book, table):
    """None if just the meets of a table are closed in a book, else which of both has a lot alone."""
    size = book[0]
    if size != table[0]:
        raise Unfit()
    found = meets_of(table)
    lot = first_apart(size, closures_of(book), found)
    if lot is None:
        return None
    if found[mask_of(lot)] == mask_of(lot):
        return ("table", lot)
    return ("book", lot)


def greatest_without(book, thing):
    """The greatest closed lots that do not have a thing."""
    size = book[0]
    closed = closures_of(book)
    bit = 1 << thing
    return lots_of([
        mask for mask in fixed_masks(size, closed)
        if not mask & bit and all([closed[more] & bit for more in one_more(size, mask)])
    ])


def barred(book, lot):
    """The things among whose greatest lots without them a closed lot is."""
    closed = closures_of(book)
    mask = closed_mask(closed, lot)
    return lot_of(_meet_above(book[0], closed, mask) - mask)


def hits(size, lots):
    """All least lots that have a thing with each of some lots in common."""
    # Each lot marks the masks that it is in, as a rule would.
    marked = brought(size, [(mask_of(lot), 1) for lot in lots])
    whole = all_of(size)
    # A mask hits just if none of the lots is in the things that it lacks.
    told = [not marked[whole - mask] for mask in range(1 << size)]
    return lots_of(least_told(size, told))


def least_lots(lots):
    """Those that are least among some lots."""
    found = []
    # What is in a lot stands ahead of it in order.
    for mask in [mask_of(lot) for lot in in_order(lots)]:
        if not any([is_in(least, mask) for least in found]):
            found.append(mask)
    return lots_of(found)


def _first_missed(masks, mask):
    """The first place of a mask that has no thing with another one in common, None if there is none."""
    for place, other in enumerate(masks):
        if not mask & other:
            return place
    return None


def hit_fault(size, lots, lot):
    """None for one of the least lots that hit some lots, else what keeps a lot from being one."""
    masks = [mask_of(other) for other in lots]
    mask = mask_of(lot)
    place = _first_missed(masks, mask)
    if place is not None:
        return ("missed", place)
    for thing, less in zip(lot, one_less(mask)):
        if _first_missed(masks, less) is None:
            return ("spare", thing)
    return None


def own_lots(size, lots, lot):
    """For each thing of a least lot that hits some lots, which of these it alone hits first."""
    if hit_fault(size, lots, lot) is not None:
        return None
    common = [mask_of(other) & mask_of(lot) for other in lots]
    return tuple([common.index(1 << thing) for thing in lot])


def rules_for(book, thing):
    """The rules by which all least lots without a thing bring it."""
    size = book[0]
    bit = 1 << thing
    brings = [not mask & bit and whole & bit for mask, whole in enumerate(closures_of(book))]
    return tuple([(lot_of(mask), (thing,)) for mask in least_told(size, brings)])


def kept_by(table, rule):
    """The least table of those meets of a table that keep a rule."""
    size = table[0]
    ahead, behind = [mask_of(lot) for lot in rule]
    masks = fixed_masks(size, meets_of(table))
    kept = [mask for mask in masks if not is_in(ahead, mask) or is_in(behind, mask)]
    return _least_rows(size, least_meets(size, kept))


def with_lot(book, lot):
    """The stem of the books of the closed lots of a book, a further lot, and their meets."""
    size = book[0]
    rows = fixed_masks(size, closures_of(book)) + [mask_of(lot)]
    return stem_of(size, least_meets(size, rows))
