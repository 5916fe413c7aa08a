"""Takings: two take things off closed lots in turn."""

from meetlots.books import closed_mask
from meetlots.bounds import MAX_STANDS
from meetlots.errors import TooMany
from meetlots.learning import learned
from meetlots.masks import closures_of, end_pairs, fixed_masks, lot_of, lots_of, parts_of, sums


def _takable(size, most):
    """For each mask whether it has as many things as may be taken off at once."""
    return [0 < many <= most for many in sums([1] * size)]


def _taken(closed, takable, mask):
    """The masks of all takings of a closed mask, in order, by the closures of all lots."""
    return [part for part in parts_of(mask) if takable[part] and closed[mask - part] == mask - part]


def _least_but(numbers):
    """The least integer from 0 on that is not among some."""
    least = 0
    while least in numbers:
        least += 1
    return least


def _heaps(size, closed, most):
    """For each closed mask its heap, by the closures of all lots."""
    takable = _takable(size, most)
    found = [0] * len(closed)
    for mask in range(len(closed)):
        if closed[mask] == mask:
            found[mask] = _least_but([found[mask - part] for part in _taken(closed, takable, mask)])
    return found


def takings(book, lot, most):
    """All takings of a closed lot, in order."""
    closed = closures_of(book)
    mask = closed_mask(closed, lot)
    return lots_of(_taken(closed, _takable(book[0], most), mask))


def heap(book, lot, most):
    """The heap of a closed lot."""
    closed = closures_of(book)
    mask = closed_mask(closed, lot)
    return _heaps(book[0], closed, most)[mask]


def heaps(book, most):
    """The heaps of all closed lots, in order."""
    closed = closures_of(book)
    found = _heaps(book[0], closed, most)
    return tuple([found[mask] for mask in fixed_masks(book[0], closed)])


def _by_heaps(book, lot, most):
    """The heap of a closed lot, and for each taking of it, in order, the pair of it and of the heap that it leaves."""
    closed = closures_of(book)
    mask = closed_mask(closed, lot)
    found = _heaps(book[0], closed, most)
    taken = _taken(closed, _takable(book[0], most), mask)
    return (found[mask], [(lot_of(part), found[mask - part]) for part in taken])


def right_takings(book, lot, most):
    """All takings of a closed lot that leave one whose heap is 0, in order."""
    _, pairs = _by_heaps(book, lot, most)
    return tuple([taking for taking, left in pairs if left == 0])


def _check_stands(stands):
    """Raises NotClosed for the first lot that is not closed in its book, then TooMany for too many stands."""
    for book, lot, _ in stands:
        closed_mask(closures_of(book), lot)
    if len(stands) > MAX_STANDS:
        raise TooMany(MAX_STANDS)


def sum_heap(stands):
    """The heap of some stands together: each power of two that stands in an odd number of theirs."""
    _check_stands(stands)
    total = 0
    for book, lot, most in stands:
        total = total ^ heap(book, lot, most)
    return total


def right_in_sum(stands):
    """All pairs of a stand's place and a taking there behind which the heap of the stands together is 0."""
    _check_stands(stands)
    told = [_by_heaps(book, lot, most) for book, lot, most in stands]
    total = 0
    for own, _ in told:
        total = total ^ own
    return tuple([
        (place, taking) for place, (own, pairs) in enumerate(told)
        for taking, left in pairs if left == total ^ own
    ])


def _next_turns(lefts):
    """The turns of a lot by those of what each end leaves, 0 where this end is the thing itself."""
    even = [left for left in lefts if left % 2 == 0]
    return 1 + (min(even) if even else max(lefts))


def _prize_turns(closed, thing):
    """For each closed mask that has a thing the turns of both, 0 for all others, by the closures of all lots."""
    turns = [0] * len(closed)
    for mask in range(len(closed)):
        if closed[mask] == mask and mask & (1 << thing):
            turns[mask] = _next_turns([turns[less] for _, less in end_pairs(closed, mask)])
    return turns


def _right_pairs(closed, turns, mask):
    """For each right end of a closed mask, ascending, the pair of it and of what it leaves."""
    return [(end, less) for end, less in end_pairs(closed, mask) if turns[less] == turns[mask] - 1]


def prize_turns(book, lot, thing):
    """After how many turns a thing is taken off a closed lot, if the winner hurries and the loser delays."""
    closed = learned(book)
    mask = closed_mask(closed, lot)
    return _prize_turns(closed, thing)[mask]


def right_ends(book, lot, thing):
    """The ends of a closed lot with which the one to move may go on."""
    closed = learned(book)
    mask = closed_mask(closed, lot)
    return tuple([end for end, _ in _right_pairs(closed, _prize_turns(closed, thing), mask)])


def prize_play(book, lot, thing):
    """The things that are taken up to a thing, if the least right end is taken each time."""
    closed = learned(book)
    mask = closed_mask(closed, lot)
    turns = _prize_turns(closed, thing)
    play = []
    while mask & (1 << thing):
        end, mask = _right_pairs(closed, turns, mask)[0]
        play.append(end)
    return tuple(play)
