"""Lots as masks: integers of which bit k is set where the lot has thing k.

What goes over all lots of a size is told here by lists with an item for each
mask, as this takes far fewer steps than comparing tuples.
"""


def mask_of(lot):
    """The mask of a lot."""
    mask = 0
    for thing in lot:
        mask = mask | (1 << thing)
    return mask


def lot_of(mask):
    """The lot of a mask."""
    return tuple([thing for thing in range(mask.bit_length()) if mask & (1 << thing)])


def lots_of(masks):
    """The lots of some masks."""
    return tuple([lot_of(mask) for mask in masks])


def is_in(part, mask):
    """Whether one lot is in another one."""
    return part & mask == part


def all_of(size):
    """The mask of all things of a size."""
    return (1 << size) - 1


def ordered_masks(size):
    """All masks of a size, in the order of their lots."""
    found = []
    level = [0]
    while level:
        found.extend(level)
        level = [mask | (1 << thing) for mask in level for thing in range(mask.bit_length(), size)]
    return found


def mask_rules(rules):
    """The rules with masks in the place of lots."""
    return [(mask_of(ahead), mask_of(behind)) for ahead, behind in rules]


def one_round(rules, mask):
    """A mask joined with behind of all rules whose ahead is in it."""
    grown = mask
    for ahead, behind in rules:
        if is_in(ahead, mask):
            grown = grown | behind
    return grown


def close(rules, mask):
    """The closure of a mask."""
    grown = one_round(rules, mask)
    while grown != mask:
        mask = grown
        grown = one_round(rules, mask)
    return mask


def holds(rules, ahead, behind):
    """Whether a rule follows from rules."""
    return is_in(behind, close(rules, ahead))


def brought(size, rules):
    """For each mask what all rules whose ahead is in it have behind, joined."""
    found = [0] * (1 << size)
    for ahead, behind in rules:
        found[ahead] = found[ahead] | behind
    for thing in range(size):
        bit = 1 << thing
        for mask in range(1 << size):
            if mask & bit:
                found[mask] = found[mask] | found[mask - bit]
    return found


def closures(size, rules):
    """For each mask its closure."""
    found = brought(size, rules)
    # A greater lot has a greater mask, so its closure is known by then.
    for mask in reversed(range(1 << size)):
        grown = mask | found[mask]
        found[mask] = mask if grown == mask else found[grown]
    return found


def closures_of(book):
    """For each mask its closure in a book."""
    size, rules = book
    return closures(size, mask_rules(rules))


def least_meets(size, rows):
    """For each mask the meet of all rows that have it."""
    found = [all_of(size)] * (1 << size)
    for row in rows:
        found[row] = row
    for thing in range(size):
        bit = 1 << thing
        for mask in range(1 << size):
            if not mask & bit:
                found[mask] = found[mask] & found[mask + bit]
    return found


def meets_of(table):
    """For each mask the least meet of a table that has it."""
    size, rows = table
    return least_meets(size, [mask_of(row) for row in rows])


def fixed_masks(size, found):
    """The masks, in order, for which a list by masks tells themselves."""
    return [mask for mask in ordered_masks(size) if found[mask] == mask]


def fixed_lots(size, found):
    """The lots, in order, for which a list by masks tells themselves."""
    return lots_of(fixed_masks(size, found))


def first_apart(size, found, other):
    """The first lot that just one of two such lists tells for itself, None if there is none."""
    for mask in ordered_masks(size):
        if (found[mask] == mask) != (other[mask] == mask):
            return lot_of(mask)
    return None


def one_less(mask):
    """The masks with one thing less than a mask, by this thing."""
    return [mask - (1 << thing) for thing in lot_of(mask)]


def one_more(size, mask):
    """The masks with one thing more than a mask, by this thing."""
    return [mask | (1 << thing) for thing in lot_of(all_of(size) - mask)]


def end_pairs(closed, mask):
    """For each end of a closed mask the pair of it and of what is left, by the closures of all lots."""
    return [(thing, less) for thing, less in zip(lot_of(mask), one_less(mask)) if closed[less] == less]


def least_told(size, told):
    """The masks, in order, for which a list by masks tells so, and for no mask with one thing less."""
    return [
        mask for mask in ordered_masks(size)
        if told[mask] and not any([told[less] for less in one_less(mask)])
    ]


def joins(first, rows):
    """For each mask the join of a first one and of the rows at the places of its things."""
    found = [first]
    for row in rows:
        found = found + [mask | row for mask in found]
    return found


def images(lead):
    """For each mask the mask that a map leads it to."""
    return joins(0, [1 << goal for goal in lead])


def parts_of(mask):
    """All masks that are in a mask, in the order of their lots."""
    lot = lot_of(mask)
    found = images(lot)
    return [found[part] for part in ordered_masks(len(lot))]


def sums(amounts):
    """For each mask the sum of the amounts of its things."""
    found = [0]
    for amount in amounts:
        found = found + [done + amount for done in found]
    return found


def source_of(lead, mask):
    """The mask of the things for which a map tells one of a mask."""
    found = 0
    for thing, goal in enumerate(lead):
        if mask & (1 << goal):
            found = found | (1 << thing)
    return found
