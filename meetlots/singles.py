"""Single books: those of which one thing ahead is enough for each rule."""

from meetlots.errors import BadReach
from meetlots.leastbooks import stem_of
from meetlots.lots import is_lot, without
from meetlots.masks import closures_of, fixed_masks, joins, lot_of, mask_of


def is_single(book):
    """Whether the join of any two closed lots of a book is closed."""
    return apart(book) is None


def apart(book):
    """The first pair of closed lots whose join is not closed, None if there is none."""
    closed = closures_of(book)
    masks = fixed_masks(book[0], closed)
    for place, mask in enumerate(masks):
        for other in masks[place + 1:]:
            if closed[mask | other] != mask | other:
                return (lot_of(mask), lot_of(other))
    return None


def reach(book):
    """The closure of the empty lot, and the closures of each thing by itself."""
    closed = closures_of(book)
    return (lot_of(closed[0]), tuple([lot_of(closed[1 << thing]) for thing in range(book[0])]))


def _is_reach_form(size, value):
    """Whether a value is a pair of a lot and a tuple with a lot for each thing."""
    if not isinstance(value, tuple) or len(value) != 2:
        return False
    root, rows = value
    if not is_lot(size, root) or not isinstance(rows, tuple) or len(rows) != size:
        return False
    return all([is_lot(size, row) for row in rows])


def reach_error(size, value):
    """None for the reach of a book of a size, else what keeps a value from being one."""
    if not _is_reach_form(size, value):
        return "form"
    root, rows = value
    for thing, row in enumerate(rows):
        if thing not in row:
            return ("own", thing)
    for thing, row in enumerate(rows):
        if without(root, row) or (thing in root and row != root):
            return ("root", thing)
    for thing, row in enumerate(rows):
        for further in row:
            if without(rows[further], row):
                return ("row", thing, further)
    return None


def _joined(size, value):
    """The book of all joins of the root of a reach and of the rows of some things."""
    root, rows = value
    return stem_of(size, joins(mask_of(root), [mask_of(row) for row in rows]))


def of_reach(size, value):
    """The book that has a reach, and that is single."""
    error = reach_error(size, value)
    if error is not None:
        raise BadReach(error)
    return _joined(size, value)


def loosened(book):
    """The single book of the fewest closed lots in which all closed lots of a book are closed."""
    return _joined(book[0], reach(book))
