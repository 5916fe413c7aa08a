"""Weights: the heaviest closed lots, and papers which show that none is heavier."""

from meetlots.errors import NotSingle
from meetlots.lots import is_below, is_integer
from meetlots.masks import closures_of, fixed_masks, is_in, lot_of, lots_of, mask_of, sums
from meetlots.singles import apart, is_single, reach


def weight(weights, lot):
    """The sum of the weights of the things of a lot."""
    return sum([weights[thing] for thing in lot])


def _closed_masks(book):
    """The masks of all closed lots of a book, in order."""
    return fixed_masks(book[0], closures_of(book))


def all_heaviest(book, weights):
    """All closed lots than which none has a greater weight, in order."""
    masks = _closed_masks(book)
    worth = sums(weights)
    most = max([worth[mask] for mask in masks])
    return lots_of([mask for mask in masks if worth[mask] == most])


def heaviest(book, weights):
    """The first closed lot than which none has a greater weight."""
    return all_heaviest(book, weights)[0]


def lightest_over(book, weights, lot):
    """The first of the lightest closed lots that have a lot."""
    masks = [mask for mask in _closed_masks(book) if is_in(mask_of(lot), mask)]
    worth = sums(weights)
    return lot_of(min(masks, key=lambda mask: worth[mask]))


def leeway(book, weights, thing):
    """By how much the weight of a thing can change for the worse of the heaviest lot, which stays heaviest."""
    found = heaviest(book, weights)
    worth = sums(weights)
    # Of the heaviest lot and these others just one side has the thing, so just one of them changes.
    others = [worth[mask] for mask in _closed_masks(book) if (thing in lot_of(mask)) != (thing in found)]
    if not others:
        return None
    return weight(weights, found) - max(others)


def _check_single(book):
    """Raises NotSingle for a book that is not single."""
    pair = apart(book)
    if pair is not None:
        raise NotSingle(pair)


def _path(came, thing):
    """The things by which one was reached, from the first one on."""
    found = []
    while thing is not None:
        found.append(thing)
        thing = came[thing]
    return found[::-1]


def _next_way(rows, spare, need, paper):
    """The things along which more can go, from one that has some to spare to one that needs some.

    From those that spare it goes to what they lead to; from those that need it back to such as
    gave them some. Returns None if there is no such way.
    """
    came = {thing: None for thing in spare if spare[thing] > 0}
    row = list(came)
    done = 0
    while done < len(row):
        thing = row[done]
        done += 1
        if thing in need:
            if need[thing] > 0:
                return _path(came, thing)
            further = [giver for giver in spare if paper.get((giver, thing), 0) > 0]
        else:
            further = [taker for taker in need if taker in rows[thing]]
        for other in further:
            if other not in came:
                came[other] = thing
                row.append(other)
    return None


def _send(way, spare, need, paper):
    """Sends as much along a way as can go there."""
    given = list(zip(way[::2], way[1::2]))
    taken_back = list(zip(way[2::2], way[1::2]))
    amount = min([spare[way[0]], need[way[-1]]] + [paper[pair] for pair in taken_back])
    spare[way[0]] = spare[way[0]] - amount
    need[way[-1]] = need[way[-1]] - amount
    for pair in given:
        paper[pair] = paper.get(pair, 0) + amount
    for pair in taken_back:
        paper[pair] = paper[pair] - amount


def heavy_paper(book, weights):
    """A paper whose bound is the weight of the heaviest closed lots of a single book."""
    _check_single(book)
    root, rows = reach(book)
    outside = [thing for thing in range(book[0]) if thing not in root]
    # No closed lot is heavier than all weights above 0 together; what they give to those below 0 that
    # come with them shows how much less it is. As much as can be given is enough.
    spare = {thing: weights[thing] for thing in outside if weights[thing] > 0}
    need = {thing: -weights[thing] for thing in outside if weights[thing] < 0}
    paper = {}
    way = _next_way(rows, spare, need, paper)
    while way is not None:
        _send(way, spare, need, paper)
        way = _next_way(rows, spare, need, paper)
    return tuple([(giver, taker, paper[giver, taker]) for giver, taker in sorted(paper) if paper[giver, taker] > 0])


def _bound(root, weights, paper):
    """The sum of the rests of the root's things, and of all other rests above 0."""
    rests = list(weights)
    for giver, taker, amount in paper:
        rests[giver] = rests[giver] - amount
        rests[taker] = rests[taker] + amount
    return sum([rest for thing, rest in enumerate(rests) if thing in root or rest > 0])


def heavy_bound(book, weights, paper):
    """What no closed lot of a single book is heavier than, by a paper."""
    _check_single(book)
    return _bound(reach(book)[0], weights, paper)


def _is_entry(rows, value):
    """Whether a value is a triple of a thing, another one that it leads to, and an amount."""
    if not isinstance(value, tuple) or len(value) != 3:
        return False
    giver, taker, amount = value
    if not is_below(len(rows), giver) or not is_below(len(rows), taker):
        return False
    return giver != taker and taker in rows[giver] and is_integer(amount) and amount > 0


def _is_paper(rows, value):
    """Whether a value is a paper, by the closures of each thing."""
    if not isinstance(value, tuple) or any([not _is_entry(rows, item) for item in value]):
        return False
    pairs = [(giver, taker) for giver, taker, _ in value]
    return pairs == sorted(set(pairs))


def heavy_paper_holds(book, weights, value):
    """Whether a value is a paper whose bound is the weight of the heaviest closed lots."""
    if not is_single(book):
        return False
    root, rows = reach(book)
    return _is_paper(rows, value) and _bound(root, weights, value) == weight(weights, heaviest(book, weights))
