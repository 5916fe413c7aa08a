"""[K5] to [K9] and [A2] (h): climbs, and what they cost."""

import random
import unittest
from itertools import permutations, product

from meetlots.books import closed_lots
from meetlots.building import (
    best_climb, best_climb_holds, cheap_climb, cheap_climb_holds, climb_count, is_climb, least_sum, least_sums,
    least_worst, stuck, sums_hold, worst_at, worst_lot,
)
from meetlots.errors import NoClimb, NotClosed
from meetlots.hulls import on_line
from meetlots.learning import ends, is_learning, orders
from tests import brute
from tests.clock import assert_quick
from tests.values import ODD

FAR = 10 ** 30
EVERYTHING = tuple(range(10))
LINE = (3, (((0, 2), (1,)),))
COSTS = ((0, 1, 5), (1, 1, 1), (0, 4, 6))
# It has just one climb, and is not learning.
ONE_WAY = (4, (((0,), (1,)), ((1, 2), (3,)), ((3,), (0,))))


def many_books():
    return brute.small_books()[::3] + brute.families(3) + brute.random_books(181, 60) + [(4, ()), LINE]


def climbs(book):
    """All climbs, by [K5]'s own words."""
    closed = brute.closed_sets(book)
    size = book[0]
    return [
        row for row in permutations(range(size)) if all(frozenset(row[:k]) in closed for k in range(size + 1))
    ]


def climbable_books():
    return [book for book in many_books() if climbs(book)] + brute.learning_books(182, 15)


def random_costs(chance, size, rising):
    wide = chance.choice((1, 3, 9, FAR))
    rows = [[chance.choice((-wide, wide, chance.randint(-wide, wide))) for _ in range(size)] for _ in range(size)]
    return tuple(tuple(sorted(row) if rising else row) for row in rows)


def own_costs(costs, row):
    return [costs[thing][turn] for turn, thing in enumerate(row)]


def worst(costs, row):
    return max(own_costs(costs, row), default=None)


class ClimbTest(unittest.TestCase):
    def stuck_by_its_words(self, book):
        lots = closed_lots(book)
        if () not in lots:
            return ()
        return next((lot for lot in lots if lot and not ends(book, lot)), None)

    def test_by_their_words(self):
        for book in many_books():
            known = climbs(book)
            self.assertEqual(climb_count(book), len(known), book)
            self.assertEqual(stuck(book), self.stuck_by_its_words(book), book)
            # [K5]: there is a climb just if nothing is stuck.
            self.assertIs(stuck(book) is None, len(known) > 0)
            for row in permutations(range(book[0])):
                self.assertIs(is_climb(book, row), row in known)

    def test_climbs_of_learning_books(self):
        for book in brute.learning_books(183, 20):
            self.assertIs(is_learning(book), True)
            self.assertEqual(sorted(row[::-1] for row in orders(book)), climbs(book))

    def test_edges(self):
        self.assertIs(stuck((0, ())), None)
        self.assertEqual(climb_count((0, ())), 1)
        self.assertIs(is_climb((0, ()), ()), True)
        self.assertEqual(climb_count((10, ())), 3628800)
        self.assertIs(is_climb((10, ()), EVERYTHING), True)
        rooted = (1, (((), (0,)),))
        self.assertEqual(stuck(rooted), ())
        self.assertEqual(climb_count(rooted), 0)
        self.assertIs(is_climb(rooted, (0,)), False)
        self.assertEqual(stuck((10, (((), EVERYTHING),))), ())
        self.assertEqual(stuck(on_line(EVERYTHING)), None)
        self.assertEqual(climb_count(on_line(EVERYTHING)), 512)
        self.assertEqual(stuck(ONE_WAY), None)

    def test_wrong_values(self):
        self.assertIs(is_climb(LINE, (1, 0, 2)), True)
        for value in ODD + [
            [1, 0, 2], (1, 0), (1, 0, 2, 2), (1, 0, 0), (True, 0, 2), (1, False, 2), (1, 0, "2"), (1, 0, None),
            (1, 0, 3),
            (1, 0, -1), "102", {1: 1, 0: 0, 2: 2}, (1, 0, (2,)), (1, 0, 10 ** 399), (0, 2, 1),
        ]:
            for found in (
                is_climb(LINE, value), best_climb_holds(LINE, COSTS, value), cheap_climb_holds(LINE, COSTS, value),
            ):
                self.assertIs(found, False, value)


class WorstTest(unittest.TestCase):
    def test_by_their_words(self):
        chance = random.Random(184)
        for book in climbable_books():
            costs = random_costs(chance, book[0], rising=True)
            known = climbs(book)
            least = min(worst(costs, row) for row in known) if book[0] else None
            self.assertEqual(least_worst(book, costs), least, (book, costs))
            found = best_climb(book, costs)
            self.assertIn(found, known)
            self.assertEqual(worst(costs, found), least)
            self.assertEqual(best_climb(book, costs), found)
            for row in permutations(range(book[0])):
                self.assertIs(best_climb_holds(book, costs, row), row in known and worst(costs, row) == least)
            self.check_lots(book, costs, least, known)

    def check_lots(self, book, costs, least, known):
        told = []
        for lot in closed_lots(book):
            if lot:
                at = min(costs[x][len(lot) - 1] for x in ends(book, lot))
                self.assertEqual(worst_at(book, costs, lot), at)
                # No climb has a lesser worst.
                self.assertTrue(all(worst(costs, row) >= at for row in known))
                told.append((lot, at))
        # [A2] (h): the least worst is the greatest of all worst_at.
        self.assertEqual(max((at for _, at in told), default=None), least)
        self.assertEqual(worst_lot(book, costs), next((lot for lot, at in told if at == least), None))

    def test_edges(self):
        self.assertIs(least_worst((0, ()), ()), None)
        self.assertEqual(best_climb((0, ()), ()), ())
        self.assertIs(best_climb_holds((0, ()), (), ()), True)
        self.assertIs(worst_lot((0, ()), ()), None)
        self.assertEqual(least_worst((1, ()), ((-FAR,),)), -FAR)
        self.assertEqual(worst_lot((1, ()), ((-FAR,),)), (0,))
        even = ((FAR,) * 10,) * 10
        self.assertEqual(least_worst((10, ()), even), FAR)
        self.assertEqual(worst_lot((10, ()), even), (0,))
        self.assertIs(best_climb_holds((10, ()), even, EVERYTHING), True)
        self.assertEqual(worst_at((10, ()), even, EVERYTHING), FAR)

    def test_errors(self):
        for lot in [(), (0, 2)]:
            with self.assertRaises(NotClosed) as caught:
                worst_at(LINE, COSTS, lot)
            self.assertEqual(caught.exception.lot, lot)
        with self.assertRaises(NotClosed) as caught:
            worst_at((0, ()), (), ())
        self.assertEqual(caught.exception.lot, ())


class SumTest(unittest.TestCase):
    def least_of(self, book, costs):
        """For each closed lot the least sum of all ways to set its things, by [K9]'s own words."""
        lots = closed_lots(book)
        told = []
        for lot in lots:
            rows = [
                row for row in permutations(lot)
                if all(tuple(sorted(row[:k])) in lots for k in range(len(lot)))
            ]
            told.append(min(sum(own_costs(costs, row)) for row in rows))
        return tuple(told)

    def test_by_their_words(self):
        chance = random.Random(185)
        for book in climbable_books():
            costs = random_costs(chance, book[0], rising=chance.random() < 0.3)
            known = climbs(book)
            least = min(sum(own_costs(costs, row)) for row in known)
            told = least_sums(book, costs)
            self.assertEqual(told, self.least_of(book, costs), (book, costs))
            self.assertEqual(told[-1], least)
            self.assertEqual(least_sum(book, costs), least)
            found = cheap_climb(book, costs)
            self.assertIn(found, known)
            self.assertEqual(sum(own_costs(costs, found)), least)
            self.assertEqual(cheap_climb(book, costs), found)
            for row in permutations(range(book[0])):
                expected = row in known and sum(own_costs(costs, row)) == least
                self.assertIs(cheap_climb_holds(book, costs, row), expected)

    def holds_by_its_words(self, book, costs, value):
        lots = closed_lots(book)
        number = dict(zip(lots, value))
        return value[0] == 0 and value[-1] == least_sum(book, costs) and all(
            number[lot] <= number[tuple(y for y in lot if y != x)] + costs[x][len(lot) - 1]
            for lot in lots for x in ends(book, lot)
        )

    def test_sums_hold(self):
        """[A2] (h): least_sums are the greatest sums that hold."""
        chance = random.Random(186)
        for book in climbable_books():
            costs = random_costs(chance, book[0], rising=False)
            told = least_sums(book, costs)
            self.assertIs(sums_hold(book, costs, told), True)
            for _ in range(8):
                value = tuple(number + chance.choice((0, 0, 0, -1, -2, 1, -FAR)) for number in told)
                expected = self.holds_by_its_words(book, costs, value)
                self.assertIs(sums_hold(book, costs, value), expected)
                if expected:
                    self.assertTrue(all(number <= most for number, most in zip(value, told)))

    def test_all_small_numbers(self):
        book = (2, (((0,), (1,)),))
        costs = ((1, 2), (-1, 0))
        told = least_sums(book, costs)
        for value in product(range(-3, 4), repeat=len(told)):
            self.assertIs(sums_hold(book, costs, value), self.holds_by_its_words(book, costs, value))

    def test_edges(self):
        self.assertEqual(least_sums((0, ()), ()), (0,))
        self.assertEqual(least_sum((0, ()), ()), 0)
        self.assertEqual(cheap_climb((0, ()), ()), ())
        self.assertIs(cheap_climb_holds((0, ()), (), ()), True)
        self.assertIs(sums_hold((0, ()), (), (0,)), True)
        self.assertIs(sums_hold((0, ()), (), (1,)), False)
        self.assertIs(sums_hold((0, ()), (), ()), False)
        even = ((FAR,) * 10,) * 10
        self.assertEqual(least_sum((10, ()), even), 10 * FAR)
        self.assertEqual(least_sum((10, ()), ((-FAR,) * 10,) * 10), -10 * FAR)
        self.assertIs(cheap_climb_holds((10, ()), even, EVERYTHING[::-1]), True)
        self.assertEqual(len(least_sums((10, ()), even)), 1024)
        self.assertEqual(least_sums(ONE_WAY, ((1,) * 4,) * 4)[-1], 4)

    def test_wrong_values(self):
        good = (0, 0, 0, 0, 0, 1, 6)
        self.assertIs(sums_hold(LINE, COSTS, good), True)
        for value in ODD + [
            list(good), good[1:], good + (6,), (False,) + good[1:], good[:5] + (True, 6), good[:5] + ("1", 6),
            good[:5] + (None, 6), good[:6] + (5,), good[:6] + (7,), (1,) + good[1:], (-1,) + good[1:],
            good[:5] + (2, 6), good[:1] + ((0,),) + good[2:], good[:1] + ([],) + good[2:], dict(enumerate(good)),
            good[:5] + (10 ** 399, 6),
        ]:
            self.assertIs(sums_hold(LINE, COSTS, value), False, value)
        self.assertIs(sums_hold(LINE, COSTS, good[:5] + (-(10 ** 399), 6)), False)
        self.assertIs(sums_hold(LINE, COSTS, good[:1] + (-(10 ** 399),) + good[2:]), False)


class NoClimbTest(unittest.TestCase):
    def books(self):
        return [book for book in brute.families(3) + brute.random_books(187, 20) if not climbs(book)] + [
            (1, (((), (0,)),)), (2, (((0,), (1,)), ((1,), (0,)))), (10, (((9,), EVERYTHING), ((0,), EVERYTHING))),
        ]

    def test_ahead_of_other_errors(self):
        for book in self.books():
            if book[0] < 10:
                self.assertEqual((climb_count(book), climbs(book)), (0, []))
            costs = ((0,) * book[0],) * book[0]
            for function, more in [
                (least_worst, ()), (best_climb, ()), (worst_at, ((),)), (worst_at, ((0,),)), (worst_lot, ()),
                (least_sums, ()), (least_sum, ()), (cheap_climb, ()),
            ]:
                with self.assertRaises(NoClimb) as caught:
                    function(book, costs, *more)
                self.assertEqual(caught.exception.lot, stuck(book))

    def test_nothing_holds(self):
        for book in self.books():
            costs = ((0,) * book[0],) * book[0]
            rows = list(permutations(range(book[0]))) if book[0] < 6 else [EVERYTHING]
            for value in ODD + rows:
                self.assertIs(best_climb_holds(book, costs, value), False)
                self.assertIs(cheap_climb_holds(book, costs, value), False)
            for value in ODD + [(0,) * len(closed_lots(book))]:
                self.assertIs(sums_hold(book, costs, value), False)


class TimeTest(unittest.TestCase):
    def test_calls_at_the_bounds(self):
        sixty = tuple(((a, b), (c,)) for a, b, c in permutations(range(10), 3) if a < c < b)[:60]
        chance = random.Random(188)
        for book in [(10, ()), (10, sixty), on_line(EVERYTHING)]:
            costs = random_costs(chance, 10, rising=True)
            for function in (least_worst, best_climb, worst_lot, least_sums, least_sum, cheap_climb):
                assert_quick(self, function, book, costs, seconds=3)
            assert_quick(self, worst_at, book, costs, EVERYTHING, seconds=3)
            assert_quick(self, sums_hold, book, costs, least_sums(book, costs), seconds=3)
            assert_quick(self, best_climb_holds, book, costs, best_climb(book, costs), seconds=3)
            assert_quick(self, cheap_climb_holds, book, costs, cheap_climb(book, costs), seconds=3)
            for function in (stuck, climb_count):
                assert_quick(self, function, book, seconds=3)


if __name__ == "__main__":
    unittest.main()
