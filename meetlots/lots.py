"""Things, lots, rules, books and tables, and what lots have in common."""

from meetlots.bounds import MAX_ROWS, MAX_RULES, MAX_THINGS
from meetlots.masks import all_of, lot_of, mask_of, ordered_masks


def is_integer(value):
    """Whether a value is an int that is not a bool."""
    return isinstance(value, int) and not isinstance(value, bool)


def is_below(limit, value):
    """Whether a value is an integer from 0 to one less than a limit, as things and places are."""
    return is_integer(value) and 0 <= value < limit


def is_lot(size, value):
    """Whether a value is a lot of a size."""
    if not isinstance(value, tuple):
        return False
    last = -1
    for thing in value:
        if not is_integer(thing) or not last < thing < size:
            return False
        last = thing
    return True


def is_rule(size, value):
    """Whether a value is a rule of a size."""
    if not isinstance(value, tuple) or len(value) != 2:
        return False
    return is_lot(size, value[0]) and is_lot(size, value[1])


def _has_size(value):
    """Whether a value is a pair whose first item is a size."""
    if not isinstance(value, tuple) or len(value) != 2:
        return False
    return is_below(MAX_THINGS + 1, value[0])


def _is_row_of(value, limit):
    """Whether a value is a tuple of at most so many items."""
    return isinstance(value, tuple) and len(value) <= limit


def book_error(value):
    """None for a book, else what keeps a value from being one."""
    if not _has_size(value):
        return "size"
    size, rules = value
    if not _is_row_of(rules, MAX_RULES):
        return "rules"
    for place, rule in enumerate(rules):
        if not is_rule(size, rule):
            return place
    return None


def table_error(value):
    """None for a table, else what keeps a value from being one."""
    if not _has_size(value):
        return "size"
    size, rows = value
    if not _is_row_of(rows, MAX_ROWS):
        return "rows"
    for place, row in enumerate(rows):
        if not is_lot(size, row):
            return place
    return None


def meet(size, lots):
    """The lot of the things that all of some lots have."""
    mask = all_of(size)
    for lot in lots:
        mask = mask & mask_of(lot)
    return lot_of(mask)


def join(lots):
    """The lot of the things that some of some lots has."""
    mask = 0
    for lot in lots:
        mask = mask | mask_of(lot)
    return lot_of(mask)


def without(lot, other):
    """The things of a lot that another one does not have."""
    return tuple([thing for thing in lot if thing not in other])


def all_lots(size):
    """All lots of a size, in order."""
    return tuple([lot_of(mask) for mask in ordered_masks(size)])


def in_order(lots):
    """Some lots in order, each once."""
    return tuple(sorted(sorted(set(lots)), key=len))


def _rule_key(rule):
    """What a rule is put in order by."""
    ahead, behind = rule
    return (len(ahead), ahead, len(behind), behind)


def rules_in_order(rules):
    """Some rules in order, as many times as they are there."""
    return tuple(sorted(rules, key=_rule_key))
