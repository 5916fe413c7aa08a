"""[C1] to [C7]: spare rules, the stem, and rules of which one round is enough."""

import unittest

from meetlots.books import alike, closed_lots
from meetlots.errors import NotAlike, Unfit
from meetlots.leastbooks import (
    direct, fewest, first_far, nearly_closed, owners, spare, stem, swell, trimmed,
)
from meetlots.lots import book_error
from tests import brute

EVERYTHING = tuple(range(10))


def many_books():
    return brute.small_books()[::4] + brute.families(3) + brute.random_books(21, 90)


def free_books():
    """Books in which all lots are closed."""
    books = [(size, ()) for size in (0, 1, 4, 10)]
    books += [(0, (((), ()),) * 60), (3, (((0, 1), (1,)), ((2,), ()), ((), ())))]
    return books + [(10, ((EVERYTHING, EVERYTHING),) * 60)]


def without_place(rules, place):
    return rules[:place] + rules[place + 1:]


class SpareTest(unittest.TestCase):
    def test_by_its_words(self):
        for book in many_books():
            size, rules = book
            expected = tuple(
                place for place, rule in enumerate(rules)
                if brute.holds((size, without_place(rules, place)), rule)
            )
            self.assertEqual(spare(book), expected, book)

    def test_edges(self):
        self.assertEqual(spare((10, ())), ())
        self.assertEqual(spare((2, (((0,), (1,)),))), ())
        self.assertEqual(spare((2, (((0,), (1,)),) * 2)), (0, 1))
        self.assertEqual(spare((2, (((0,), (1,)),) * 60)), tuple(range(60)))
        self.assertEqual(spare((2, (((0,), ()), ((), (1,)), ((1,), (1,))))), (0, 2))


class TrimmedTest(unittest.TestCase):
    def by_its_words(self, book):
        size, rules = book
        kept = []
        for ahead, behind in rules:
            short = list(ahead)
            for thing in ahead:
                less = [x for x in short if x != thing]
                if set(behind) <= brute.closure(book, less):
                    short = less
            kept.append((tuple(short), brute.as_lot(set(behind) - set(short))))
        place = 0
        while place < len(kept):
            if brute.holds((size, without_place(kept, place)), kept[place]):
                del kept[place]
            else:
                place += 1
        return (size, tuple(sorted(kept, key=brute.rule_key)))

    def test_by_its_words(self):
        for book in many_books():
            self.assertEqual(trimmed(book), self.by_its_words(book), book)

    def test_what_it_promises(self):
        for book in many_books():
            found = trimmed(book)
            self.assertIs(book_error(found), None)
            self.assertIs(alike(book, found), True)
            self.assertEqual(spare(found), ())
            for ahead, behind in found[1]:
                for thing in ahead:
                    less = tuple(x for x in ahead if x != thing)
                    self.assertFalse(brute.holds(book, (less, behind)))

    def test_edges(self):
        self.assertEqual(trimmed((0, (((), ()),))), (0, ()))
        self.assertEqual(trimmed((2, (((0,), (1,)),) * 60)), (2, (((0,), (1,)),)))
        self.assertEqual(trimmed((2, (((0, 1), (0,)), ((), ())))), (2, ()))
        self.assertEqual(trimmed((3, (((0, 1), (2,)), ((), (0, 1))))), (3, (((), (2,)), ((), (0, 1)))))
        # The least thing is tried first, so the greater one stays.
        self.assertEqual(
            trimmed((3, (((0,), (1,)), ((1,), (0,)), ((0, 1), (2,))))),
            (3, (((0,), (1,)), ((1,), (0,)), ((1,), (2,)))),
        )
        self.assertEqual(trimmed((10, ())), (10, ()))

    def test_order_of_rules(self):
        book = (4, (((2, 3), (0,)), ((1,), (3,)), ((0,), (2,)), ((1,), (2,))))
        self.assertEqual(trimmed(book), (4, (((0,), (2,)), ((1,), (2,)), ((1,), (3,)), ((2, 3), (0,)))))


class NearlyClosedTest(unittest.TestCase):
    def test_by_its_words(self):
        for book in many_books():
            expected = tuple(brute.as_lot(lot) for lot in brute.nearly_closed(book))
            self.assertEqual(nearly_closed(book), expected, book)

    def test_edges(self):
        self.assertEqual(nearly_closed((0, ())), ())
        self.assertEqual(nearly_closed((10, (((), EVERYTHING),))), ((),))
        self.assertEqual(nearly_closed((3, (((), (1,)), ((0, 1), (2,))))), ((), (0, 1)))

    def test_swell_by_its_words(self):
        for book in brute.small_books()[::9] + brute.families(3)[::2] + brute.random_books(22, 25, sizes=(3, 4)):
            for lot in brute.tuples_of(book[0]):
                self.assertEqual(swell(book, lot), brute.as_lot(brute.swell(book, lot)), (book, lot))

    def test_what_swells_is_closed_or_nearly_closed(self):
        for book in many_books():
            own = set(closed_lots(book)) | set(nearly_closed(book))
            for lot in brute.tuples_of(book[0]):
                self.assertIn(swell(book, lot), own)
                self.assertEqual(swell(book, lot) == lot, lot in own)

    def test_swell_at_the_edges(self):
        self.assertEqual(swell((0, ()), ()), ())
        self.assertEqual(swell((10, ()), EVERYTHING), EVERYTHING)
        self.assertEqual(swell((10, (((), EVERYTHING),)), ()), ())
        self.assertEqual(swell((10, (((), EVERYTHING),)), (4,)), EVERYTHING)


class StemTest(unittest.TestCase):
    def test_by_its_words(self):
        for book in many_books():
            rules = tuple(
                (brute.as_lot(lot), brute.as_lot(brute.closure(book, lot) - lot))
                for lot in brute.nearly_closed(book)
            )
            self.assertEqual(stem(book), (book[0], rules))
            self.assertEqual(rules, tuple(sorted(rules, key=brute.rule_key)))
            self.assertEqual(fewest(book), len(rules))
            self.assertIs(alike(book, stem(book)), True)
            self.assertIs(book_error(stem(book)), None)

    def test_the_same_just_for_alike_books(self):
        books = brute.small_books()[::7] + brute.families(3) + brute.random_books(23, 60, sizes=(3,))
        for book in books:
            for other in books:
                if book[0] == other[0]:
                    self.assertIs(alike(book, other), stem(book) == stem(other))

    def test_no_alike_book_has_fewer_rules(self):
        for size in range(5):
            found = brute.families(size)
            self.assertEqual(len(found), (1, 2, 7, 61, 2480)[size])
            for book in found:
                self.assertEqual(fewest(book), len(book[1]), book)
                self.assertEqual(len(stem(book)[1]), len(book[1]), book)

    def test_sixty_rules(self):
        for book in brute.random_books(24, 5, sizes=(10,), most_rules=60, most_things=4):
            doubled = (10, (book[1] * 60)[:60])
            self.assertIs(alike(doubled, stem(doubled)), True)
            self.assertEqual(stem(stem(doubled)), stem(doubled))
            self.assertEqual(stem(trimmed(doubled)), stem(doubled))
            self.assertLessEqual(fewest(doubled), len(trimmed(doubled)[1]))
            self.assertEqual(spare(stem(doubled)), ())


class OwnersTest(unittest.TestCase):
    def by_its_words(self, book, other):
        found = []
        for ahead, _ in stem(book)[1]:
            found.append(tuple(
                place for place, (mine, behind) in enumerate(other[1])
                if swell(other, mine) == ahead and not set(behind) <= set(ahead)
            ))
        return tuple(found)

    def check(self, book, other):
        found = owners(book, other)
        self.assertEqual(found, self.by_its_words(book, other))
        self.assertEqual(len(found), fewest(book))
        places = [place for item in found for place in item]
        self.assertEqual(len(set(places)), len(places))
        for item in found:
            self.assertTrue(item)
            self.assertEqual(list(item), sorted(item))
        if len(other[1]) == fewest(book):
            self.assertEqual(sorted(places), list(range(len(other[1]))))
            self.assertEqual([len(item) for item in found], [1] * len(found))

    def test_of_alike_books(self):
        for book in many_books():
            for other in (book, stem(book), trimmed(book), (book[0], tuple(reversed(book[1])))):
                self.check(book, other)
                self.check(other, book)

    def test_of_alike_books_of_all_small_families(self):
        least = {closed_lots(book): book for book in brute.families(3)}
        for other in brute.random_books(25, 150, sizes=(3,)):
            self.check(least[closed_lots(other)], other)

    def test_not_alike(self):
        with self.assertRaises(NotAlike) as caught:
            owners((3, ()), (3, (((2,), (0,)), ((1,), (0,)))))
        self.assertEqual(caught.exception.lot, (1,))
        with self.assertRaises(NotAlike) as caught:
            owners((3, (((), (0,)),)), (3, ()))
        self.assertEqual(caught.exception.lot, ())

    def test_unlike_sizes(self):
        for book, other in [((3, ()), (2, ())), ((0, ()), (10, ())), ((3, (((0,), (1,)),)), (2, (((0,), (1,)),)))]:
            with self.assertRaises(Unfit):
                owners(book, other)
            with self.assertRaises(Unfit):
                owners(other, book)


class DirectTest(unittest.TestCase):
    def test_by_its_words(self):
        for book in many_books():
            self.assertEqual(direct(book), brute.direct(book), book)

    def test_one_round_is_enough(self):
        for book in many_books() + brute.random_books(26, 4, sizes=(10,), most_rules=60, most_things=4):
            size = book[0]
            rules = direct(book)
            self.assertEqual(list(rules), sorted(rules, key=brute.rule_key))
            self.assertIs(first_far(size, rules), None)
            closed = brute.closed_sets(book)
            for lot in brute.tuples_of(size)[::1 if size < 10 else 61]:
                self.assertEqual(brute.one_round(rules, lot), brute.closure_among(size, closed, lot))

    def test_each_rule_and_each_thing_is_needed(self):
        for book in brute.families(3) + brute.random_books(27, 30):
            rules = direct(book)
            for place, (ahead, behind) in enumerate(rules):
                for thing in behind:
                    rest = tuple(x for x in behind if x != thing)
                    fewer = rules[:place] + ((ahead, rest),) + rules[place + 1:]
                    self.assertNotEqual(brute.one_round(fewer, ahead), brute.closure(book, ahead))

    def test_more_rules_than_a_book_may_have(self):
        book = (10, tuple(
            ((a, b, c), ((a * b + c) % 10,)) for c in range(10) for b in range(c) for a in range(b)
        )[::2])
        self.assertEqual(len(book[1]), 60)
        found = direct(book)
        self.assertGreater(len(found), 60)
        self.assertIs(first_far(10, found), None)
        self.assertEqual(found, brute.direct(book))


class FirstFarTest(unittest.TestCase):
    def test_by_its_words(self):
        for book in many_books():
            size, rules = book
            closed = brute.closed_sets(book)
            far = [lot for lot in brute.tuples_of(size) if brute.one_round(rules, lot) not in closed]
            self.assertEqual(first_far(size, rules), far[0] if far else None, book)

    def test_edges(self):
        self.assertIs(first_far(0, ()), None)
        self.assertIs(first_far(10, ()), None)
        self.assertIs(first_far(0, (((), ()),)), None)
        self.assertEqual(first_far(2, (((), (0,)), ((0,), (1,)))), ())
        self.assertIs(first_far(10, (((), EVERYTHING),) * 1023), None)
        self.assertEqual(first_far(10, (((8,), (9,)), (EVERYTHING[1:], (0,)))), tuple(range(1, 9)))

    def test_as_many_rules_as_may_be(self):
        lots = brute.tuples_of(10)[1:]
        self.assertEqual(len(lots), 1023)
        self.assertIs(first_far(10, tuple((lot, lot) for lot in lots)), None)
        self.assertIs(first_far(10, tuple((lot, EVERYTHING) for lot in lots)), None)
        chain = tuple((lot, (min(lot[0] + 1, 9),)) for lot in lots)
        self.assertEqual(first_far(10, chain), (0,))


class EdgesTest(unittest.TestCase):
    def test_all_lots_closed(self):
        for book in free_books():
            self.assertEqual(stem(book), (book[0], ()))
            self.assertEqual(fewest(book), 0)
            self.assertEqual(direct(book), ())
            self.assertEqual(nearly_closed(book), ())
            self.assertEqual(spare(book), tuple(range(len(book[1]))))
            self.assertEqual(trimmed(book), (book[0], ()))
            self.assertEqual(owners(book, book), ())

    def test_just_all_things_closed(self):
        for size in range(1, 11):
            everything = tuple(range(size))
            for rules in [(((), everything),), tuple(((), (k,)) for k in range(size))]:
                self.assertEqual(stem((size, rules)), (size, (((), everything),)))
                self.assertEqual(direct((size, rules)), (((), everything),))

    def test_things_in_no_rule(self):
        for book in many_books():
            self.assertEqual(self.named(stem(book)[1]), self.named(direct(book)))

    def named(self, rules):
        return {thing for rule in rules for lot in rule for thing in lot}


if __name__ == "__main__":
    unittest.main()
