"""Maps from a size to another one, and the books that are led along them."""

from meetlots.errors import Unfit
from meetlots.leastbooks import stem_of
from meetlots.lots import is_below
from meetlots.masks import close, closures_of, fixed_masks, images, is_in, least_meets
from meetlots.masks import lot_of, mask_of, mask_rules, source_of


def is_map(size, other_size, value):
    """Whether a value is a map from a size to another one."""
    if not isinstance(value, tuple) or len(value) != size:
        return False
    return all([is_below(other_size, goal) for goal in value])


def has_each_once(size, value):
    """Whether a value is a tuple of all things of a size, each once."""
    return is_map(size, size, value) and len(set(value)) == size


def _check_map(size, other_size, lead):
    """Raises Unfit for what is no map from a size to another one."""
    if not is_map(size, other_size, lead):
        raise Unfit()


def led(lead, lot):
    """The lot of what a map tells for the things of a lot."""
    return lot_of(mask_of([lead[thing] for thing in lot]))


def source(lead, lot):
    """The lot of the things for which a map tells one of a lot."""
    return lot_of(source_of(lead, mask_of(lot)))


def after(lead, further):
    """The map that tells what a further one tells for what the first one tells."""
    _check_map(len(lead), len(further), lead)
    return tuple([further[goal] for goal in lead])


def is_smooth(book, other, lead):
    """Whether the source of each closed lot of another book is closed."""
    return rough(book, other, lead) is None


def rough(book, other, lead):
    """The first closed lot of another book whose source is not closed, with it; None if there is none."""
    _check_map(book[0], other[0], lead)
    closed = closures_of(book)
    for mask in fixed_masks(other[0], closures_of(other)):
        found = source_of(lead, mask)
        if closed[found] != found:
            return (lot_of(mask), lot_of(found))
    return None


def rough_rule(book, other, lead):
    """The place of the first rule that does not follow where it is led to, None if there is none."""
    _check_map(book[0], other[0], lead)
    goals = images(lead)
    other_rules = mask_rules(other[1])
    for place, (ahead, behind) in enumerate(mask_rules(book[1])):
        if not is_in(goals[behind], close(other_rules, goals[ahead])):
            return place
    return None


def pulled(other, lead):
    """The book of the sources of all closed lots of another one."""
    _check_map(len(lead), other[0], lead)
    closed = closures_of(other)
    # The least source that has a lot is that of the least closed lot that has what it is led to.
    return stem_of(len(lead), [source_of(lead, closed[goal]) for goal in images(lead)])


def pushed(book, other_size, lead):
    """The book of all lots of another size whose source is closed."""
    _check_map(book[0], other_size, lead)
    closed = closures_of(book)
    sources = [source_of(lead, mask) for mask in range(1 << other_size)]
    kept = [mask for mask, found in enumerate(sources) if closed[found] == found]
    return stem_of(other_size, least_meets(other_size, kept))
