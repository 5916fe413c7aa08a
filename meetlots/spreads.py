"""Few orders that tell a learning book, and spreads, which show that fewer do not."""

from meetlots.leastbooks import stem_of
from meetlots.learning import keeps_order, learned
from meetlots.lots import in_order, is_lot
from meetlots.masks import all_of, end_pairs, is_in, least_meets, lots_of, mask_of
from meetlots.turns import irreducible_masks


def _places_above(masks):
    """For each of some masks the places of those that are greater."""
    return [
        [place for place, other in enumerate(masks) if other != mask and is_in(mask, other)]
        for mask in masks
    ]


def _search(above, downs, starts):
    """Goes from places up to greater ones, and from these down by their links, as far as one can.

    Returns the first place that is linked to nothing below it, None if there is none; for each
    place gone up to the one it was reached from; and the places that were gone up from.
    """
    came = {}
    row = list(starts)
    done = 0
    while done < len(row):
        low = row[done]
        done += 1
        for high in above[low]:
            if high not in came:
                came[high] = low
                if high not in downs:
                    return (high, came, row)
                row.append(downs[high])
    return (None, came, row)


def _links(above):
    """As many links as there can be, each from a place to a greater one, no two from or to the same.

    They come twice: by the places that they go up from, and by those that they go down from.
    """
    ups = {}
    downs = {}
    for start in range(len(above)):
        high, came, _ = _search(above, downs, [start])
        # The way back is linked anew: each place gives its link to the one it was reached from.
        while high is not None:
            low = came[high]
            further = ups.get(low)
            ups[low] = high
            downs[high] = low
            high = further
    return (ups, downs)


def _spread_masks(size, closed):
    """The masks of a widest spread, by the closures of all lots."""
    masks = irreducible_masks(size, closed)
    above = _places_above(masks)
    ups, downs = _links(above)
    _, came, row = _search(above, downs, [place for place in range(len(masks)) if place not in ups])
    # Each chain of links has one place that was gone up from, but not up to; these are not in one another.
    return [masks[place] for place in sorted(row) if place not in came]


def spread(book):
    """As many irreducible lots as there can be of which none is in another."""
    return lots_of(_spread_masks(book[0], learned(book)))


def spread_holds(book, value):
    """Whether a value is a spread than which none has more lots."""
    size = book[0]
    closed = learned(book)
    if not isinstance(value, tuple) or len(value) != len(_spread_masks(size, closed)):
        return False
    if any([not is_lot(size, lot) for lot in value]) or in_order(value) != value:
        return False
    masks = [mask_of(lot) for lot in value]
    known = irreducible_masks(size, closed)
    return all([mask in known for mask in masks]) and not any(_places_above(masks))


def _order_through(closed, chain):
    """An order that has the masks of a chain, each greater than the one behind it, among its tails."""
    mask = len(closed) - 1
    order = []
    for goal in chain + [0]:
        while mask != goal:
            # Between two closed lots of a learning book some end of the greater one is always there.
            fit = [(thing, less) for thing, less in end_pairs(closed, mask) if is_in(goal, less)]
            thing, mask = fit[0]
            order.append(thing)
    return tuple(order)


def _chains(masks, downs, tops):
    """For each of some places the masks that its links lead down to, from its own on."""
    found = []
    for place in tops:
        chain = [masks[place]]
        while place in downs:
            place = downs[place]
            chain.append(masks[place])
        found.append(chain)
    return found


def fewest_orders(book):
    """As few orders as there can be that tell a learning book."""
    closed = learned(book)
    masks = irreducible_masks(book[0], closed)
    ups, downs = _links(_places_above(masks))
    tops = [place for place in range(len(masks)) if place not in ups]
    return tuple([_order_through(closed, chain) for chain in _chains(masks, downs, tops)])


def _tails(orders):
    """The masks of all tails of some orders."""
    found = []
    for order in orders:
        mask = all_of(len(order))
        for thing in order:
            found.append(mask)
            mask = mask - (1 << thing)
        found.append(mask)
    return found


def orders_hold(book, value):
    """Whether a value is orders that tell a learning book, as few as there can be."""
    size = book[0]
    closed = learned(book)
    if not isinstance(value, tuple) or len(value) != len(_spread_masks(size, closed)):
        return False
    if not all([keeps_order(size, closed, item) for item in value]):
        return False
    told = _tails(value)
    # No irreducible lot is a meet of others, so each has to be a tail itself.
    return all([mask in told for mask in irreducible_masks(size, closed)])


def made_of_orders(size, orders):
    """The stem of the books of all meets of tails of some orders."""
    return stem_of(size, least_meets(size, _tails(orders)))
