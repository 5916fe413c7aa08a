"""Climbs: all things of a book set one behind the other so that each beginning is closed."""

from meetlots.books import closed_mask
from meetlots.errors import NoClimb, NotClosed
from meetlots.learning import way_counts
from meetlots.lots import is_integer
from meetlots.maps import has_each_once
from meetlots.masks import closures_of, end_pairs, fixed_masks, lot_of


def _stuck(size, closed):
    """What keeps a book from having a climb, None if nothing does, by the closures of all lots."""
    if closed[0] != 0:
        return ()
    for mask in fixed_masks(size, closed):
        if mask != 0 and not end_pairs(closed, mask):
            return lot_of(mask)
    return None


def stuck(book):
    """The empty lot if it is not closed, else the first closed lot with things and without an end, if any."""
    return _stuck(book[0], closures_of(book))


def _climbable(book):
    """The closures of all lots in a book that has to have a climb."""
    closed = closures_of(book)
    lot = _stuck(book[0], closed)
    if lot is not None:
        raise NoClimb(lot)
    return closed


def is_climb(book, value):
    """Whether a value is a climb of a book."""
    closed = closures_of(book)
    if not has_each_once(book[0], value) or closed[0] != 0:
        return False
    mask = 0
    for thing in value:
        mask = mask | (1 << thing)
        if closed[mask] != mask:
            return False
    return True


def climb_count(book):
    """How many climbs a book has."""
    return way_counts(closures_of(book))[-1]


def _greater(worst, cost):
    """The greater one of a worst, None for none yet, and a further cost."""
    return cost if worst is None else max(worst, cost)


def _added(total, cost):
    """The sum of a total and a further cost."""
    return total + cost


# What the costs of things at their turns come to: of none of them, and with a further one.
_WORST = (None, _greater)
_TOTAL = (0, _added)


def _end_values(closed, costs, values, mask, further):
    """For each end of a closed mask what its cost behind all that is left makes; with it, what is left."""
    turn = len(lot_of(mask)) - 1
    return [(further(values[less], costs[thing][turn]), thing, less) for thing, less in end_pairs(closed, mask)]


def _least_values(closed, costs, kind):
    """For each closed mask the least that its things come to in any row of which each beginning is closed."""
    first, further = kind
    values = [first] * len(closed)
    for mask in range(1, len(closed)):
        if closed[mask] == mask:
            values[mask] = min([value for value, _, _ in _end_values(closed, costs, values, mask, further)])
    return values


def _least_climb(closed, costs, kind):
    """A climb that comes to the least."""
    further = kind[1]
    values = _least_values(closed, costs, kind)
    mask = len(closed) - 1
    climb = []
    while mask:
        found = _end_values(closed, costs, values, mask, further)
        fit = [(thing, less) for value, thing, less in found if value == values[mask]]
        thing, mask = fit[0]
        climb.append(thing)
    return tuple(climb[::-1])


def _is_least_climb(book, costs, value, kind):
    """Whether a value is a climb that comes to the least."""
    if not is_climb(book, value):
        return False
    found, further = kind
    for turn, thing in enumerate(value):
        found = further(found, costs[thing][turn])
    return found == _least_values(closures_of(book), costs, kind)[-1]


def least_worst(book, costs):
    """The least worst of all climbs."""
    return _least_values(_climbable(book), costs, _WORST)[-1]


def best_climb(book, costs):
    """A climb of the least worst."""
    return _least_climb(_climbable(book), costs, _WORST)


def best_climb_holds(book, costs, value):
    """Whether a value is a climb of the least worst."""
    return _is_least_climb(book, costs, value, _WORST)


def _worst_at(closed, costs, mask):
    """The least cost of an end of a closed mask at the last turn of its things."""
    turn = len(lot_of(mask)) - 1
    return min([costs[thing][turn] for thing, _ in end_pairs(closed, mask)])


def worst_at(book, costs, lot):
    """What is worst in no climb for less, as the last thing of a closed lot is an end of it."""
    closed = _climbable(book)
    mask = closed_mask(closed, lot)
    if mask == 0:
        raise NotClosed(lot)
    return _worst_at(closed, costs, mask)


def worst_lot(book, costs):
    """The first closed lot that shows that no climb has a lesser worst, None for size 0."""
    closed = _climbable(book)
    least = _least_values(closed, costs, _WORST)[-1]
    for mask in fixed_masks(book[0], closed):
        if mask != 0 and _worst_at(closed, costs, mask) == least:
            return lot_of(mask)
    return None


def least_sums(book, costs):
    """For each closed lot, in order, the least sum of its things' costs, set so that each beginning is closed."""
    closed = _climbable(book)
    values = _least_values(closed, costs, _TOTAL)
    return tuple([values[mask] for mask in fixed_masks(book[0], closed)])


def least_sum(book, costs):
    """The least sum of all climbs."""
    return _least_values(_climbable(book), costs, _TOTAL)[-1]


def cheap_climb(book, costs):
    """A climb of the least sum."""
    return _least_climb(_climbable(book), costs, _TOTAL)


def cheap_climb_holds(book, costs, value):
    """Whether a value is a climb of the least sum."""
    return _is_least_climb(book, costs, value, _TOTAL)


def _never_too_much(closed, costs, numbers):
    """Whether no closed mask has a greater number than any end's cost and what is left without it have."""
    for mask, number in numbers.items():
        for found, _, _ in _end_values(closed, costs, numbers, mask, _added):
            if number > found:
                return False
    return True


def sums_hold(book, costs, value):
    """Whether a value is numbers of the closed lots which show that no climb has a lesser sum."""
    closed = closures_of(book)
    masks = fixed_masks(book[0], closed)
    if _stuck(book[0], closed) is not None or not isinstance(value, tuple) or len(value) != len(masks):
        return False
    if any([not is_integer(number) for number in value]):
        return False
    if value[0] != 0 or value[-1] != _least_values(closed, costs, _TOTAL)[-1]:
        return False
    return _never_too_much(closed, costs, dict(zip(masks, value)))
