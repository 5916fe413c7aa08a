"""Tables, and the meets of their rows."""

from meetlots.errors import Unfit
from meetlots.lots import in_order, meet
from meetlots.masks import first_apart, fixed_lots, is_in, mask_of, meets_of


def meets(table):
    """All meets of a table, in order."""
    return fixed_lots(table[0], meets_of(table))


def meet_of(table, places):
    """The meet of the rows at some places."""
    size, rows = table
    return meet(size, [rows[place] for place in places])


def _sharing(rows, mask):
    """The places of all rows that have a lot, all of them as masks."""
    return tuple([place for place, row in enumerate(rows) if is_in(mask, row)])


def shared(table, lot):
    """The places of all rows that have a lot."""
    return _sharing([mask_of(row) for row in table[1]], mask_of(lot))


def is_meet(table, lot):
    """Whether a lot is a meet of a table."""
    return meet_of(table, shared(table, lot)) == lot


def closed_pairs(table):
    """For each meet, in order, the pair of it and of the places of all rows that have it."""
    rows = [mask_of(row) for row in table[1]]
    return tuple([(lot, _sharing(rows, mask_of(lot))) for lot in meets(table)])


def spare_rows(table):
    """The places of all rows each of which is the meet of those others that have it."""
    size, rows = table
    return tuple([
        place for place, row in enumerate(rows)
        if is_meet((size, rows[:place] + rows[place + 1:]), row)
    ])


def least_table(table):
    """The alike table without spare rows, in order."""
    size, rows = table
    once = (size, in_order(rows))
    spares = spare_rows(once)
    return (size, tuple([row for place, row in enumerate(once[1]) if place not in spares]))


def breaking_row(table, rule):
    """The first place of a row that breaks a rule, None if all keep it."""
    ahead, behind = rule
    for place, row in enumerate(table[1]):
        mask = mask_of(row)
        if is_in(mask_of(ahead), mask) and not is_in(mask_of(behind), mask):
            return place
    return None


def same_meets(table, other):
    """Whether two tables have the same meets."""
    return parting_meet(table, other) is None


def parting_meet(table, other):
    """The first lot that is a meet of just one of two tables, None if they are alike."""
    if table[0] != other[0]:
        raise Unfit()
    return first_apart(table[0], meets_of(table), meets_of(other))
