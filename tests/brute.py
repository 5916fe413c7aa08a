"""What the document says, word for word, found by going through all lots.

Nothing of the package is used here: lots are frozensets, and no step is saved.
"""

import random
from itertools import combinations, permutations


def tuples_of(size):
    """All lots of a size, in order."""
    return [lot for many in range(size + 1) for lot in combinations(range(size), many)]


def sets_of(size):
    return [frozenset(lot) for lot in tuples_of(size)]


def as_lot(things):
    return tuple(sorted(things))


def lot_key(lot):
    return (len(lot), tuple(lot))


def rule_key(rule):
    return (lot_key(rule[0]), lot_key(rule[1]))


def keeps(lot, rule):
    return not set(rule[0]) <= set(lot) or set(rule[1]) <= set(lot)


def meet_of_sets(size, lots):
    found = frozenset(range(size))
    for lot in lots:
        found = found & frozenset(lot)
    return found


def closed_sets(book):
    size, rules = book
    return [lot for lot in sets_of(size) if all(keeps(lot, rule) for rule in rules)]


def closure_among(size, closed, lot):
    """The meet of all closed lots that have a lot."""
    return meet_of_sets(size, [other for other in closed if frozenset(lot) <= other])


def closure(book, lot):
    return closure_among(book[0], closed_sets(book), lot)


def holds(book, rule):
    return all(keeps(lot, rule) for lot in closed_sets(book))


def are_steps(book, lot, thing, places):
    """Whether places are steps, as [B3] says it, short or not."""
    if len(set(places)) != len(places):
        return False
    have = set(lot)
    for place in places:
        ahead, behind = book[1][place]
        if not set(ahead) <= have:
            return False
        have |= set(behind)
    return thing in have


def least(lots):
    return [lot for lot in lots if not any(other < lot for other in lots)]


def greatest(lots):
    return [lot for lot in lots if not any(lot < other for other in lots)]


def lots_in_order(lots):
    """Some lots, as sets of any kind, as tuples in order, each once."""
    return tuple(sorted({as_lot(lot) for lot in lots}, key=lot_key))


def nearly_closed_among(size, closed):
    """The nearly closed lots, by [C3]'s own words, as frozensets in order."""
    found = []
    for lot in sets_of(size):
        if lot in closed:
            continue
        if all(closure_among(size, closed, near) <= lot for near in found if near < lot):
            found.append(lot)
    return found


def nearly_closed(book):
    return nearly_closed_among(book[0], closed_sets(book))


def stem_among(size, closed):
    """The stem of the books of some closed lots, by [C4]'s own words."""
    closed = [frozenset(lot) for lot in closed]
    rules = [(as_lot(lot), as_lot(closure_among(size, closed, lot) - lot)) for lot in nearly_closed_among(size, closed)]
    return (size, tuple(rules))


def irreducible_among(size, closed):
    """The lots of a family that are not the meet of the greater ones, in order, by [E1]'s own words."""
    closed = [frozenset(lot) for lot in closed]
    return lots_in_order(
        lot for lot in closed if meet_of_sets(size, [other for other in closed if lot < other]) != lot
    )


def meets_among(size, lots):
    """All meets of some lots, of none too, as frozensets."""
    found = {frozenset(range(size))}
    for lot in lots:
        found |= {other & frozenset(lot) for other in found}
    return found


def hitting(size, lots):
    """The least lots that hit some lots, by [E5]'s own words."""
    return lots_in_order(least([lot for lot in sets_of(size) if all(lot & frozenset(other) for other in lots)]))


def makers_among(size, closed, lot):
    """The makers of a lot, by [F1]'s own words."""
    whole = closure_among(size, closed, lot)
    return lots_in_order(least([other for other in sets_of(size) if closure_among(size, closed, other) == whole]))


def swell(book, lot):
    """The least of all lots over a lot that have the closures told in [C3]."""
    size = book[0]
    closed = closed_sets(book)
    near = nearly_closed(book)
    fit = [
        other for other in sets_of(size)
        if frozenset(lot) <= other
        and all(closure_among(size, closed, one) <= other for one in near if one < other)
    ]
    found = [other for other in fit if all(other <= one for one in fit)]
    assert len(found) == 1
    return found[0]


def makes(book, lot):
    return closure(book, lot) - frozenset(lot)


def direct(book):
    """The rules of the least makers, by [C6]'s own words."""
    size = book[0]
    closed = closed_sets(book)
    made = {lot: closure_among(size, closed, lot) - lot for lot in sets_of(size)}
    found = []
    for lot in sets_of(size):
        own = [x for x in made[lot] if not any(x in made[other] for other in made if other < lot)]
        if own:
            found.append((as_lot(lot), as_lot(own)))
    return tuple(found)


def one_round(rules, lot):
    have = set(lot)
    for ahead, behind in rules:
        if set(ahead) <= set(lot):
            have |= set(behind)
    return frozenset(have)


def meets(table):
    """The meets of all choices of rows."""
    return sorted((as_lot(lot) for lot in meets_among(*table)), key=lot_key)


def families(size):
    """For each family of lots of a size that is closed under meeting and has all things
    a book with as few rules as can be; with the number of these rules."""
    lots = sets_of(size)
    rules = [(a, b) for a in tuples_of(size) for b in tuples_of(size)]
    kept = [sum(1 << k for k, lot in enumerate(lots) if keeps(lot, rule)) for rule in rules]
    everything = (1 << len(lots)) - 1
    found = {everything: ()}
    level = [everything]
    while level:
        following = []
        for family in level:
            for rule, mask in zip(rules, kept):
                if family & mask not in found:
                    found[family & mask] = found[family] + (rule,)
                    following.append(family & mask)
        level = following
    return [(size, book) for book in found.values()]


def is_learning(size, closed):
    """Whether the empty lot is closed and no two things bring each other, by [H1]'s own words."""
    if frozenset() not in closed:
        return False
    return not any(
        closure_among(size, closed, lot | {x}) == closure_among(size, closed, lot | {y})
        for lot in closed for x, y in combinations([k for k in range(size) if k not in lot], 2)
    )


def orders_among(size, closed):
    """The orders of a learning book, by [H4]'s own words."""
    return tuple(
        order for order in permutations(range(size))
        if all(frozenset(order[k:]) in closed for k in range(size))
    )


def random_learning_books(seed, count, sizes=(2, 3, 4, 5), most_orders=4):
    """Books of the meets of tails of some rows of all things; by [H5] they are learning."""
    chance = random.Random(seed)
    books = []
    while len(books) < count:
        size = chance.choice(sizes)
        rows = [chance.sample(range(size), size) for _ in range(chance.randint(1, most_orders))]
        book = stem_among(size, meets_among(size, [row[k:] for row in rows for k in range(size + 1)]))
        if len(book[1]) <= 60:
            books.append(book)
    return books


def learning_books(seed, count):
    """All learning books of three things, the least ones, and some at random."""
    found = [book for book in families(3) if is_learning(3, closed_sets(book))]
    return found + [(0, ()), (1, ()), (2, ()), (2, (((0,), (1,)),))] + random_learning_books(seed, count)


def not_learning_books():
    """Books that are not learning, the empty lot closed in them or not."""
    return [
        (1, (((), (0,)),)), (2, (((), (1,)),)), (10, (((), (4,)),)), (1, (((), (0,)),) * 60),
        (2, (((0,), (1,)), ((1,), (0,)))), (4, (((0,), (1,)), ((1, 2), (3,)), ((3,), (0,)))),
    ]


def widest(lots):
    """How many of some lots there are at most of which none is in another."""
    lots = [frozenset(lot) for lot in lots]
    apart = [0]
    for place, lot in enumerate(lots):
        alike = sum(1 << k for k, other in enumerate(lots[:place]) if lot <= other or other <= lot)
        apart += [chosen | (1 << place) for chosen in apart if not chosen & alike]
    return max(bin(chosen).count("1") for chosen in apart)


def random_lot(chance, size, most):
    return as_lot(chance.sample(range(size), chance.randint(0, min(size, most))))


def random_books(seed, count, sizes=(2, 3, 4, 5), most_rules=7, most_things=3):
    chance = random.Random(seed)
    books = []
    for _ in range(count):
        size = chance.choice(sizes)
        rules = tuple(
            (random_lot(chance, size, most_things), random_lot(chance, size, most_things))
            for _ in range(chance.randint(0, most_rules))
        )
        if rules and chance.random() < 0.2:
            rules += (rules[0],)
        books.append((size, rules))
    return books


def random_tables(seed, count, sizes=(2, 3, 4, 5), most_rows=8):
    chance = random.Random(seed)
    tables = []
    for _ in range(count):
        size = chance.choice(sizes)
        rows = tuple(random_lot(chance, size, size) for _ in range(chance.randint(0, most_rows)))
        if rows and chance.random() < 0.2:
            rows += (rows[0],)
        tables.append((size, rows))
    return tables


def small_books():
    """All books of at most two things with at most two rules, and of none."""
    books = []
    for size in (0, 1, 2):
        rules = [(a, b) for a in tuples_of(size) for b in tuples_of(size)]
        books.append((size, ()))
        books.extend((size, (rule,)) for rule in rules)
        books.extend((size, (rule, other)) for rule in rules for other in rules)
    return books


def small_tables():
    """All tables of at most two things with at most three rows."""
    tables = []
    for size in (0, 1, 2):
        lots = tuples_of(size)
        tables.append((size, ()))
        tables.extend((size, (a,)) for a in lots)
        tables.extend((size, (a, b)) for a in lots for b in lots)
        tables.extend((size, (a, b, c)) for a in lots for b in lots for c in lots)
    return tables
