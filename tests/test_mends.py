"""Points 8 and 9: mended and prices_hold."""

import copy
import itertools
import random
import unittest

from moonseat.ahead import onward, ways
from moonseat.errors import BadCosts, NoKind, NotFull, TooLong
from moonseat.mends import mended, prices_hold
from moonseat.rules import Rules
from moonseat.sheets import is_whole, stand_of
from tests.helper import (
    all_rows, book, cost_said, odd_stand, other_field, planted_parts, random_books, random_row, roomy_parts, shown_said,
    small_parts, standing_rows, wide_parts,
)

FREE = (1, 4, 0)


def full_row(rng, rules):
    return random_row(rng, rules.many(), rules.size)


def random_costs(rng, size):
    return [1] * size if rng.random() < 0.2 else [rng.randint(1, 9) for each in range(size)]


def mended_cases(seed, count, makers=(small_parts, planted_parts, roomy_parts)):
    """Full rows of books that have whole sheets, with their costs and what is told of them."""
    for maker in makers:
        for rng, given, rules in random_books(seed, count, maker):
            row, costs = full_row(rng, rules), random_costs(rng, rules.size)
            told = mended(rules, row, costs)
            if told is not None:
                yield rng, given, rules, row, costs, told


class MendedTest(unittest.TestCase):
    def check(self, given, rules, row, costs, sheets):
        kept = (list(row), list(costs))
        told = mended(rules, row, costs)
        self.assertEqual((row, costs), kept)
        if not sheets:
            self.assertIsNone(told, (given, row))
            return False
        cost, sheet, prices = told
        self.assertEqual(cost, min(cost_said(row, costs, other) for other in sheets), (given, row, costs))
        self.assertIn(sheet, sheets)
        self.assertEqual(cost_said(row, costs, sheet), cost)
        self.check_told(given, rules, row, costs, told)
        return True

    def check_told(self, given, rules, row, costs, told):
        cost, sheet, prices = told
        self.assertEqual([type(thing) for thing in (told, cost, sheet, prices)], [tuple, int, list, list])
        self.assertTrue(all(type(pairs) is list and type(pair) is tuple for pairs in prices for pair in pairs))
        self.assertTrue(shown_said(given, row, costs, prices, cost))
        for number, shown in ((cost, True), (cost - 1, True), (-1, True), (cost + 1, False), (cost + 10 ** 9, False)):
            self.assertIs(prices_hold(rules, row, costs, prices, number), shown)

    def test_small_books_against_all_sheets(self):
        found = []
        for rng, given, rules in random_books(51, 150, small_parts):
            sheets = standing_rows(given, given[0])
            rows = [full_row(rng, rules) for each in range(4)] + rng.sample(sheets, min(len(sheets), 2))
            for row in rows:
                for costs in ([1] * rules.size, random_costs(rng, rules.size)):
                    found.append(self.check(given, rules, row, costs, sheets))
        self.assertGreater(found.count(True), 300)
        self.assertGreater(found.count(False), 100)

    def test_all_full_rows_of_two_books(self):
        for given in (
            (4, [(1, 2, 1), (2, 3, 0)], [(1, 0, 2)], [(1, 1, 1)], [(1, 3, 4)]),
            (4, [(2, 2, 0), (1, 1, 0), (1, 4, 1)], [(1, 2, 1)], [], [(0, 1, 4)]),
        ):
            sheets = standing_rows(given, 4)
            for row in all_rows(len(given[1]), 4):
                for costs in ([1, 1, 1, 1], [9, 1, 3, 2], [1, 9, 9, 9]):
                    self.check(given, book(*given), row, costs, sheets)

    def test_great_books_with_few_sheets(self):
        checked = 0
        for rng, given, rules in random_books(52, 150, planted_parts):
            if ways(rules, []) <= 300:
                checked += rules.size > 6
                sheets = self.all_sheets(rules)
                self.check(given, rules, full_row(rng, rules), random_costs(rng, rules.size), sheets)
        self.assertGreater(checked, 40)

    def all_sheets(self, rules):
        """All whole sheets, found by lengthening rows from which one goes on."""
        rows = [[]]
        while len(rows[0]) < rules.size:
            longer = [row + [kind] for row in rows for kind in range(rules.many())]
            rows = [row for row in longer if self.goes_on(rules, row)]
        return rows

    def goes_on(self, rules, row):
        try:
            return ways(rules, row) > 0
        except ValueError:
            return False

    def test_great_books(self):
        for rng, given, rules, row, costs, told in mended_cases(53, 50, (roomy_parts,)):
            cost, sheet, prices = told
            self.assertTrue(is_whole(rules, sheet))
            self.assertEqual(cost_said(row, costs, sheet), cost)
            self.check_told(given, rules, row, costs, told)
            self.assertLessEqual(cost, cost_said(row, costs, onward(rules, [])))
            self.assertEqual(mended(rules, sheet, costs)[:2], (0, sheet))

    def test_none_where_there_is_no_whole_sheet(self):
        found = 0
        for rng, given, rules in random_books(54, 100, wide_parts):
            told = mended(rules, full_row(rng, rules), random_costs(rng, rules.size))
            self.assertEqual(told is None, ways(rules, []) == 0)
            found += told is None
        self.assertGreater(found, 50)
        self.assertIsNone(mended(book(1, [FREE], [], [(0, 1, 1)]), [0], [1]))
        self.assertIsNone(mended(book(3, [(2, 2, 0)]), [0, 0, 0], [1, 2, 3]))

    def test_the_dearer_change_is_spared(self):
        rules = book(2, [(1, 1, 0), (1, 1, 0)])
        self.assertEqual(mended(rules, [0, 0], [9, 1])[:2], (1, [0, 1]))
        self.assertEqual(mended(rules, [0, 0], [1, 9])[:2], (1, [1, 0]))
        self.assertEqual(mended(rules, [0, 1], [9, 9])[:2], (0, [0, 1]))
        pairs = book(4, [(2, 2, 0), (2, 2, 0)])
        self.assertEqual(mended(pairs, [0, 1, 0, 1], [5, 3, 2, 1])[:2], (5, [0, 0, 1, 1]))
        self.assertEqual(mended(pairs, [0, 1, 0, 1], [1, 3, 2, 1])[:2], (2, [1, 1, 0, 0]))

    def test_told_lists_changed_and_asked_again(self):
        for rng, given, rules, row, costs, told in mended_cases(55, 30):
            kept = copy.deepcopy(told)
            told[1].append(3)
            told[1][0] = 9
            for pairs in told[2]:
                pairs.append(None)
                pairs[0] = None
            told[2].append([])
            self.assertEqual(mended(rules, row, costs), kept)

    def test_rows_costs_and_books_by_turns(self):
        cases = [case[2:] for case in mended_cases(56, 15)]
        for rules, row, costs, told in cases[::-1]:
            twin = Rules(rules.size, rules.kinds(), rules.shuns(), rules.bars(), rules.dues())
            others = [cost % 9 + 1 for cost in costs]
            before = mended(twin, row, others)
            self.assertEqual(mended(rules, row, costs), told)
            self.assertEqual(mended(twin, row, costs), told)
            self.assertEqual(mended(rules, row, others), before)
            self.assertIs(prices_hold(rules, row, costs, told[2], told[0]), True)

    def test_a_row_and_costs_changed_behind_the_call(self):
        rules, row, costs = book(2, [(1, 1, 0), (1, 1, 0)]), [0, 0], [9, 1]
        told = mended(rules, row, costs)
        row[1] = 1
        costs[0] = 2
        self.assertEqual(told[:2], (1, [0, 1]))
        self.assertEqual(mended(rules, row, costs)[:2], (0, [0, 1]))
        row[0] = 1
        self.assertEqual(mended(rules, row, costs)[:2], (1, [1, 0]))


class PricesHoldTest(unittest.TestCase):
    """A book of size 2 whose sheets are [0, 1] and [1, 0], with prices written out."""

    GIVEN = (2, [(1, 1, 0), (1, 1, 0)], [], [], [])
    EMPTY = (0, -1, 0, -1, (0, 0), ())
    ZERO, ONE = (1, 0, 1, -1, (0, 0), ()), (1, 1, 1, -1, (0, 0), ())
    BOTH, TURNED = (2, 1, 1, 0, (0, 0), ()), (2, 0, 1, 1, (0, 0), ())
    ROW, COSTS = [0, 0], [5, 3]
    PRICES = [[(EMPTY, 3)], [(ZERO, 3), (ONE, 0)], [(BOTH, 0), (TURNED, 0)]]

    def shows(self, prices, cost=3):
        rules, row, costs, kept = book(*self.GIVEN), list(self.ROW), list(self.COSTS), copy.deepcopy(prices)
        found = prices_hold(rules, row, costs, prices, cost)
        self.assertEqual((row, costs, prices), (self.ROW, self.COSTS, kept))
        self.assertIn(found, (True, False))
        self.assertIs(type(found), bool)
        self.assertEqual(found, shown_said(self.GIVEN, row, costs, prices, cost))
        return found

    def with_pairs(self, at, pairs):
        return self.PRICES[:at] + [pairs] + self.PRICES[at + 1:]

    def test_the_told_prices(self):
        cost, sheet, prices = mended(book(*self.GIVEN), self.ROW, self.COSTS)
        self.assertEqual((cost, sheet), (3, [0, 1]))
        self.assertEqual([sorted(pairs) for pairs in prices], [sorted(pairs) for pairs in self.PRICES])

    def test_the_number_shown(self):
        for cost in (3, 2, 0, -1, -10 ** 9):
            self.assertIs(self.shows(self.PRICES, cost), True)
        for cost in (4, 10 ** 9):
            self.assertIs(self.shows(self.PRICES, cost), False)

    def test_a_number_raised(self):
        self.assertIs(self.shows(self.with_pairs(0, [(self.EMPTY, 4)])), False)
        self.assertIs(self.shows(self.with_pairs(1, [(self.ZERO, 4), (self.ONE, 0)])), False)
        self.assertIs(self.shows(self.with_pairs(1, [(self.ZERO, 3), (self.ONE, 1)])), False)
        self.assertIs(self.shows(self.with_pairs(2, [(self.BOTH, 1), (self.TURNED, 0)])), False)

    def test_a_number_lowered(self):
        self.assertIs(self.shows(self.with_pairs(0, [(self.EMPTY, 2)])), False)
        self.assertIs(self.shows(self.with_pairs(0, [(self.EMPTY, 2)]), 2), True)
        self.assertIs(self.shows(self.with_pairs(1, [(self.ZERO, 2), (self.ONE, 0)])), False)
        self.assertIs(self.shows(self.with_pairs(1, [(self.ZERO, 3), (self.ONE, -2)])), True)
        self.assertIs(self.shows(self.with_pairs(1, [(self.ZERO, 3), (self.ONE, -3)])), False)
        self.assertIs(self.shows(self.with_pairs(2, [(self.BOTH, -1), (self.TURNED, 0)])), False)
        low = [[(self.EMPTY, -2)], [(self.ZERO, -2), (self.ONE, -5)], self.PRICES[2]]
        self.assertIs(self.shows(low, -2), True)
        self.assertIs(self.shows(low, -1), False)

    def test_numbers_below_nought_at_the_size(self):
        low = [[(self.EMPTY, 1)], [(self.ZERO, 1), (self.ONE, -2)], [(self.BOTH, -2), (self.TURNED, -2)]]
        self.assertIs(self.shows(low, 1), True)
        self.assertIs(self.shows([[(self.EMPTY, 2)]] + low[1:], 1), False)

    def test_a_pair_out_and_twice(self):
        for at, pairs in enumerate(self.PRICES):
            for one, pair in enumerate(pairs):
                self.assertIs(self.shows(self.with_pairs(at, pairs[:one] + pairs[one + 1:])), False)
                self.assertIs(self.shows(self.with_pairs(at, pairs + [pair])), False)
                self.assertIs(self.shows(self.with_pairs(at, pairs + [(pair[0], -9)])), False)
            self.assertIs(self.shows(self.with_pairs(at, pairs[::-1])), True)

    def test_lists_out_more_and_none(self):
        self.assertIs(self.shows([]), False)
        self.assertIs(self.shows([], -1), False)
        self.assertIs(self.shows([[]], -1), False)
        self.assertIs(self.shows([[]] + self.PRICES), False)
        for at in range(3):
            self.assertIs(self.shows(self.PRICES[:at] + self.PRICES[at + 1:]), False)
            self.assertIs(self.shows(self.PRICES[:at]), False)
            self.assertIs(self.shows(self.with_pairs(at, [])), False)
        for count in (1, 2, 40):
            self.assertIs(self.shows(self.PRICES + [[]] * count), True)
        self.assertIs(self.shows(self.PRICES + [[(self.BOTH, 0)]]), False)
        self.assertIs(self.shows(self.PRICES + self.PRICES), False)

    def test_a_stand_put_in(self):
        for at, stand, number, shown in (
            (0, (0, 0, 1, -1, (0, 1), ()), 10 ** 9, True), (0, (0, 0, 1, 0, (0, 0), ()), 0, False),
            (1, (1, 0, 4, 1, (0, 1), ()), 10 ** 9, True), (1, (1, 0, 4, 1, (0, 0), ()), 3, True),
            (1, (1, 0, 4, 1, (0, 0), ()), 4, False), (1, (1, -1, 0, -1, (0, 0), ()), 0, False),
            (2, (2, -1, 4, 1, (3, 0), ()), 0, True), (2, (2, -1, 4, 1, (3, 0), ()), -7, True),
            (2, (2, -1, 4, 1, (3, 0), ()), 1, False), (2, (1, 0, 1, 0, (0, 0), ()), 0, False),
            (0, (1, 0, 1, -1, (0, 0), ()), 0, False), (1, (2, 1, 1, 0, (0, 0), ()), 0, False),
        ):
            with self.subTest(at=at, stand=stand, number=number):
                self.assertIs(self.shows(self.with_pairs(at, self.PRICES[at] + [(stand, number)])), shown)

    def test_a_list_behind_an_empty_one(self):
        """Where no step leads on, nothing need follow, and what does is held by itself."""
        rules = book(3, [(4, 4, 0)], [(0, 0, 1)])
        prices = [[((0, -1, 0, -1, (0,), ()), 50)], [((1, 0, 1, -1, (0,), ()), 50)]]
        row, costs = [0, 0, 0], [1, 2, 3]
        for more, shown in (
            ([], True), ([[]], True), ([[], []], True), ([[], [((3, 0, 1, 0, (0,), ()), 0)]], True),
            ([[], [((3, 0, 1, 0, (0,), ()), 1)]], False), ([[], [((2, 0, 1, 0, (0,), ()), 0)]], False),
        ):
            self.assertIs(prices_hold(rules, row, costs, prices + more, 50), shown)
        self.assertIs(prices_hold(rules, row, costs, prices, 51), False)
        self.assertIsNone(mended(rules, row, costs))

    def test_other_rows_and_costs(self):
        rules = book(*self.GIVEN)
        for row, costs, shown in (
            ([0, 0], [5, 3], True), ([0, 0], [4, 3], True), ([0, 0], [3, 3], True), ([0, 0], [2, 3], False),
            ([0, 0], [5, 2], False), ([0, 1], [5, 3], False), ([1, 0], [5, 3], False), ([1, 1], [3, 3], False),
        ):
            with self.subTest(row=row, costs=costs):
                self.assertIs(prices_hold(rules, row, costs, self.PRICES, 3), shown)
                self.assertEqual(shown_said(self.GIVEN, row, costs, self.PRICES, 3), shown)


class ChangedPricesTest(unittest.TestCase):
    """Told prices changed at random, against the words of point 9."""

    def changes(self, rng, given, prices):
        """Prices with one thing otherwise than in these."""
        at = rng.randrange(len(prices))
        pairs, ahead, behind = prices[at], prices[:at], prices[at + 1:]
        one = rng.randrange(len(pairs))
        stand, number = pairs[one]
        rest = pairs[:one] + pairs[one + 1:]
        for other in (number + 1, number - 1, number + rng.randint(1, 99), number - rng.randint(1, 99), -number, 0):
            yield ahead + [rest + [(stand, other)]] + behind
        yield ahead + [rest] + behind
        yield ahead + [pairs + [pairs[one]]] + behind
        yield ahead + [pairs + [(stand, number - 1)]] + behind
        for other in (number, -99, 0, 99):
            yield ahead + [pairs + [(odd_stand(rng, given, at), other)]] + behind
            yield ahead + [pairs + [(odd_stand(rng, given, rng.randint(0, given[0])), other)]] + behind
        yield ahead + [rest + [(other_field(rng, given, stand), number)]] + behind
        yield ahead + [pairs + [(other_field(rng, given, stand), number)]] + behind
        yield ahead + behind
        yield ahead + [[]] + behind
        yield ahead + [[], pairs] + behind
        yield ahead + [pairs, pairs] + behind
        yield prices + [[]]
        yield prices + [prices[-1]]
        yield prices[1:]
        yield []

    def test_prices_with_one_thing_changed(self):
        found = []
        for rng, given, rules, row, costs, told in mended_cases(57, 60, (small_parts, planted_parts)):
            cost, sheet, prices = told
            for changed in self.changes(rng, given, prices):
                number = rng.choice((cost, cost, cost - 1, cost + 1, 0))
                kept = copy.deepcopy((row, costs, changed))
                found.append(prices_hold(rules, row, costs, changed, number))
                self.assertIs(found[-1], shown_said(given, row, costs, changed, number), (given, row, costs, changed))
                self.assertEqual((row, costs, changed), kept)
        self.assertGreater(found.count(True), 300)
        self.assertGreater(found.count(False), 500)

    def test_no_prices_show_more_than_the_least_cost(self):
        for rng, given, rules, row, costs, told in mended_cases(58, 25):
            cost, sheet, prices = told
            for more in (1, 5):
                raised = [[(stand, number + more) for stand, number in pairs] for pairs in prices]
                self.assertIs(prices_hold(rules, row, costs, raised, cost + more), False)
                self.assertIs(prices_hold(rules, row, costs, raised[:-1] + [prices[-1]], cost + more), False)


class RefusedTest(unittest.TestCase):
    RULES = book(3, [(1, 1, 0), (2, 2, 0)])

    def refuse(self, error, row, costs):
        for call in (
            lambda: mended(self.RULES, row, costs),
            lambda: prices_hold(self.RULES, row, costs, [], 0),
            lambda: prices_hold(self.RULES, row, costs, [[(stand_of(self.RULES, []), 1)]], 1),
        ):
            with self.subTest(row=row, costs=costs):
                kept = (list(row), list(costs))
                with self.assertRaises(error) as caught:
                    call()
                self.assertIs(type(caught.exception), error)
                self.assertEqual((row, costs), kept)
                self.assertEqual(mended(self.RULES, [0, 1, 0], [1, 1, 1])[0], 1)

    BAD_COSTS = ([], [1], [1, 1], [1, 1, 1, 1], [1, 0, 1], [10, 1, 1], [1, 1, -1], [1, 1, 10 ** 9], [0] * 3, [1] * 30)
    NO_KIND = ([-1, 0, 1], [0, 1, 2], [2], [0, 0, 0, 9], [10 ** 9, 0, 0, 0, 0], [0, -10 ** 9])
    TOO_LONG = ([0, 1, 1, 0], [0] * 4, [1] * 40)
    NOT_FULL = ([], [0], [1, 1], [0, 0])

    def test_each_alone(self):
        for error, rows in ((NoKind, [[0, 1, 2], [-1, 0, 0]]), (TooLong, self.TOO_LONG), (NotFull, self.NOT_FULL)):
            for row in rows:
                self.refuse(error, row, [1, 1, 1])
        for costs in self.BAD_COSTS:
            self.refuse(BadCosts, [0, 1, 1], costs)

    def test_two_at_once(self):
        for error, rows in ((NoKind, self.NO_KIND), (TooLong, self.TOO_LONG), (NotFull, self.NOT_FULL)):
            for row, costs in itertools.product(rows, self.BAD_COSTS):
                self.refuse(error, row, costs)
                self.refuse(error, row, [1] * len(row))

    def test_costs_at_their_bounds(self):
        for costs in ([1, 1, 1], [9, 9, 9], [1, 9, 5]):
            self.assertEqual(mended(self.RULES, [0, 1, 1], costs)[0], 0)

    def test_a_row_that_does_not_stand_is_taken(self):
        rng = random.Random(59)
        for each in range(20):
            row = full_row(rng, self.RULES)
            cost, sheet, prices = mended(self.RULES, row, [1, 2, 3])
            self.assertIs(prices_hold(self.RULES, row, [1, 2, 3], prices, cost), True)

    def test_refused_also_where_there_is_no_whole_sheet(self):
        rules = book(3, [(2, 2, 0)])
        for error, row, costs in (
            (NoKind, [0, 0, 1], [1, 1, 1]), (TooLong, [0] * 4, [1, 1, 1]), (NotFull, [0], [1, 1, 1]),
            (BadCosts, [0] * 3, [1, 0, 1]),
        ):
            with self.assertRaises(error):
                mended(rules, row, costs)
