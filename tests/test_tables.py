"""Point 7: blocked and table_holds."""

import copy
import unittest

from moonseat.ahead import onward
from moonseat.errors import Broken, NoKind, TooLong
from moonseat.rules import Rules
from moonseat.sheets import judged, stand_of
from moonseat.tables import blocked, table_holds
from tests.helper import (
    book, closed_said, odd_stand, other_field, planted_parts, random_books, small_parts, standing_rows, wide_parts,
)

FREE = (1, 4, 0)


def some_rows(rng, given, rules, count):
    """Rows that stand, some of them at their end."""
    rows = [[]]
    for each in range(count):
        row = []
        for verse in range(rng.randint(1, given[0])):
            fitting = [kind for kind in range(rules.many()) if judged(rules, row + [kind]) is None]
            if fitting:
                row.append(rng.choice(fitting))
        rows.append(row)
    return rows


def blocked_cases(seed, count, makers=(small_parts, planted_parts, wide_parts)):
    """Books and rows from which no sheet goes on, with the told table."""
    for maker in makers:
        for rng, given, rules in random_books(seed, count, maker):
            for row in some_rows(rng, given, rules, 4):
                table = blocked(rules, row)
                if table is not None:
                    yield rng, given, rules, row, table


class BlockedTest(unittest.TestCase):
    def check(self, given, rules, row):
        """Tells whether the row is blocked."""
        kept = list(row)
        table = blocked(rules, row)
        self.assertEqual(row, kept)
        self.assertNotEqual(table is None, onward(rules, row) is None, (given, row))
        if table is None:
            return False
        self.assertTrue(closed_said(given, row, table), (given, row))
        self.assertIs(table_holds(rules, row, table), True)
        self.assertIs(type(table), list)
        self.assertTrue(all(type(stands) is list for stands in table))
        return True

    def test_all_rows_of_small_books(self):
        found = []
        for rng, given, rules in random_books(41, 150, small_parts):
            sheets = standing_rows(given, given[0])
            rows = [row for length in range(given[0] + 1) for row in standing_rows(given, length)]
            for row in rows if len(rows) < 80 else rng.sample(rows, 80):
                found.append(self.check(given, rules, row))
                self.assertEqual(found[-1], row not in [sheet[:len(row)] for sheet in sheets])
        self.assertGreater(found.count(True), 300)
        self.assertGreater(found.count(False), 300)

    def test_rows_of_books_from_the_whole_range(self):
        found = []
        for maker in (wide_parts, planted_parts):
            for rng, given, rules in random_books(42, 200, maker):
                found += [self.check(given, rules, row) for row in some_rows(rng, given, rules, 3)]
        self.assertGreater(found.count(True), 200)
        self.assertGreater(found.count(False), 200)

    def test_a_whole_sheet_has_no_table(self):
        rules = book(2, [FREE])
        self.assertIsNone(blocked(rules, [0, 0]))
        stand = stand_of(rules, [0, 0])
        for table in ([[stand]], [[stand], []], [[]], [], [[], [stand]]):
            self.assertIs(table_holds(rules, [0, 0], table), False)

    def test_told_tables_lengthened_and_asked_again(self):
        for rng, given, rules, row, table in blocked_cases(43, 60):
            kept = copy.deepcopy(table)
            for stands in table:
                stands.append(odd_stand(rng, given, 0))
                stands[0] = None
            table.append([])
            self.assertEqual(blocked(rules, row), kept)

    def test_rows_and_books_by_turns(self):
        cases = [case[2:] for case in blocked_cases(44, 25)]
        twins = [Rules(r.size, r.kinds(), r.shuns(), r.bars(), r.dues()) for r, row, table in cases]
        for (rules, row, table), twin in list(zip(cases, twins))[::-1]:
            self.assertEqual(blocked(rules, row), table)
            self.assertEqual(blocked(twin, row), table)
            self.assertIs(table_holds(twin, row, table), True)
        one, two = book(3, [(2, 2, 0)]), book(3, [(2, 3, 0)])
        for each in range(3):
            self.assertIsNone(blocked(two, [0]))
            self.assertIs(table_holds(one, [0], blocked(one, [0])), True)
            self.assertIs(table_holds(two, [0], blocked(one, [0])), False)
            self.assertIs(table_holds(one, [0, 0], blocked(one, [0])), False)


class TableHoldsTest(unittest.TestCase):
    """A book without whole sheets whose told table is small enough to be written out."""

    GIVEN = (4, [(1, 1, 0), (2, 2, 0)], [(1, 0, 1)], [], [])
    EMPTY = (0, -1, 0, -1, (0, 0), ())
    TABLE = [
        [EMPTY],
        [(1, 0, 1, -1, (0, 0), ()), (1, 1, 1, -1, (0, 0), ())],
        [(2, 1, 1, 0, (0, 0), ()), (2, 1, 2, 1, (0, 0), ())],
        [(3, 1, 2, 1, (0, 0), ())],
    ]

    def holds(self, table, row=()):
        rules, kept, row = book(*self.GIVEN), copy.deepcopy(table), list(row)
        kept_row = list(row)
        found = table_holds(rules, row, table)
        self.assertEqual((table, row), (kept, kept_row))
        self.assertIn(found, (True, False))
        self.assertEqual(found, closed_said(self.GIVEN, row, table))
        return found

    def test_the_told_table(self):
        self.assertEqual([sorted(stands) for stands in blocked(book(*self.GIVEN), [])], self.TABLE)
        self.assertIs(self.holds(self.TABLE), True)

    def test_no_list_at_all(self):
        self.assertIs(self.holds([]), False)
        self.assertIs(self.holds([[]]), False)
        self.assertIs(self.holds([[]] + self.TABLE), False)
        self.assertIs(self.holds([[], []]), False)

    def test_each_stand_out(self):
        for at, stands in enumerate(self.TABLE):
            for stand in stands:
                less = [other for other in stands if other != stand]
                self.assertIs(self.holds(self.TABLE[:at] + [less] + self.TABLE[at + 1:]), False)

    def test_each_list_out_or_emptied(self):
        for at in range(4):
            self.assertIs(self.holds(self.TABLE[:at] + self.TABLE[at + 1:]), False)
            self.assertIs(self.holds(self.TABLE[:at]), False)
            self.assertIs(self.holds(self.TABLE[:at] + [[]] + self.TABLE[at + 1:]), False)

    def test_an_empty_list_breaks_nothing_by_itself(self):
        for count in (1, 2, 3, 40):
            self.assertIs(self.holds(self.TABLE + [[]] * count), True)
        # The row's stand has no step here, so nothing need follow; what follows may.
        end = (3, 1, 2, 1, (0, 0), ())
        self.assertIs(self.holds([[end]], [0, 1, 1]), True)
        self.assertIs(self.holds([[end], []], [0, 1, 1]), True)
        self.assertIs(self.holds([[end], [], []], [0, 1, 1]), True)
        self.assertIs(self.holds([[end], [(4, 1, 2, 1, (0, 0), ())]], [0, 1, 1]), False)

    def test_a_list_more_behind_an_empty_one(self):
        """A stand that no step leads to is held by its own place and steps alone."""
        rules = book(4, [(4, 4, 0)], [(0, 0, 1)])
        table = [[(0, -1, 0, -1, (0,), ())], [(1, 0, 1, -1, (0,), ())]]
        self.assertIs(table_holds(rules, [], table), True)
        self.assertIs(table_holds(rules, [], table + [[], [(3, 0, 2, 0, (0,), ())]]), True)
        self.assertIs(table_holds(rules, [], table + [[], [(2, 0, 2, 0, (0,), ())]]), False)
        self.assertIs(table_holds(rules, [], table + [[], [(3, -1, 2, 0, (0,), ())]]), True)
        self.assertIs(table_holds(rules, [], table + [[(2, -1, 2, 0, (0,), ())]]), False)

    def test_a_stand_put_in(self):
        fine = (2, 1, 2, -1, (4, 4), ())
        for stand, holds in (
            ((3, 1, 2, 0, (0, 3), ()), True), ((3, 0, 1, -1, (0, 4), ()), True), ((3, 1, 0, 0, (0, 0), ()), True),
            ((3, -1, 0, 0, (0, 0), ()), False), ((3, 1, 1, 0, (0, 0), ()), False), ((2, 1, 2, 0, (0, 0), ()), False),
            ((4, 1, 2, 0, (0, 0), ()), False), ((3, 0, 1, 1, (0, 0), ()), True), ((3, 0, 0, 1, (0, 0), ()), False),
        ):
            with self.subTest(stand=stand):
                self.assertIs(self.holds(self.TABLE[:3] + [self.TABLE[3] + [stand]]), holds)
        self.assertIs(self.holds(self.TABLE[:2] + [self.TABLE[2] + [fine], self.TABLE[3]]), True)

    def test_a_stand_twice_and_in_another_order(self):
        self.assertIs(self.holds([stands * 2 for stands in self.TABLE]), True)
        self.assertIs(self.holds([stands[::-1] for stands in self.TABLE]), True)

    def test_the_table_of_another_row(self):
        self.assertIs(self.holds(self.TABLE[1:], [0]), True)
        self.assertIs(self.holds(self.TABLE[1:], [1]), True)
        self.assertIs(self.holds(self.TABLE[1:]), False)
        self.assertIs(self.holds(self.TABLE, [0]), False)
        self.assertIs(self.holds(self.TABLE[2:], [1]), False)

    def test_no_table_holds_where_a_sheet_goes_on(self):
        for rng, given, rules in random_books(45, 60, planted_parts):
            layers = [[stand_of(rules, [])]]
            while len(layers) <= rules.size:
                layers.append([odd_stand(rng, given, len(layers)) for each in range(4)])
            sheet = onward(rules, [])
            for at in range(1, rules.size + 1):
                layers[at].append(stand_of(rules, sheet[:at]))
            for table in (layers, layers[:-1], layers[:-1] + [[]]):
                self.assertIs(table_holds(rules, [], table), False)


class ChangedTablesTest(unittest.TestCase):
    """Told tables changed at random, against the words of point 7."""

    def changes(self, rng, given, table):
        """Tables with one thing otherwise than in this one."""
        at = rng.randrange(len(table))
        stands, ahead, behind = table[at], table[:at], table[at + 1:]
        one = rng.randrange(len(stands))
        place = stands[one][0]
        yield ahead + [stands[:one] + stands[one + 1:]] + behind
        yield ahead + [stands + [odd_stand(rng, given, place)]] + behind
        yield ahead + [stands + [odd_stand(rng, given, rng.randint(0, given[0]))]] + behind
        yield ahead + [stands[:one] + [other_field(rng, given, stands[one])] + stands[one + 1:]] + behind
        yield ahead + [stands + [other_field(rng, given, stands[one])]] + behind
        yield ahead + behind
        yield ahead + [[]] + behind
        yield ahead + [[], stands] + behind
        yield ahead + [stands, stands] + behind
        yield table + [[]]
        yield table + [[odd_stand(rng, given, min(table[-1][0][0] + 1, given[0]))]]
        yield []

    def test_tables_with_one_thing_changed(self):
        found = []
        for rng, given, rules, row, table in blocked_cases(46, 120):
            for changed in self.changes(rng, given, table):
                kept, kept_row = copy.deepcopy(changed), list(row)
                found.append(table_holds(rules, row, changed))
                self.assertIs(found[-1], closed_said(given, row, changed), (given, row, changed))
                self.assertEqual((changed, row), (kept, kept_row))
        self.assertGreater(found.count(True), 500)
        self.assertGreater(found.count(False), 500)


class RefusedRowsTest(unittest.TestCase):
    RULES = book(3, [(1, 1, 0), (2, 2, 0)])

    def refuse(self, error, row):
        for call in (
            lambda: blocked(self.RULES, row),
            lambda: table_holds(self.RULES, row, []),
            lambda: table_holds(self.RULES, row, [[stand_of(self.RULES, [])]]),
        ):
            with self.subTest(row=row):
                kept = list(row)
                with self.assertRaises(error) as caught:
                    call()
                self.assertIs(type(caught.exception), error)
                self.assertEqual(row, kept)
                self.assertIsNone(blocked(self.RULES, [0]))
                if error is Broken:
                    told = (caught.exception.place, caught.exception.word)
                    self.assertEqual(told, judged(self.RULES, row))

    def test_no_kind_then_too_long_then_broken(self):
        for row in ([-1], [2], [0, 0, 0, 9], [0, 0, -10 ** 9], [10 ** 9, 0, 1, 1]):
            self.refuse(NoKind, row)
        for row in ([0, 0, 0, 0], [0, 1, 1, 0], [1, 0] * 20):
            self.refuse(TooLong, row)
        for row in ([0, 0], [1, 0, 0], [1, 1, 1], [0, 0, 1]):
            self.refuse(Broken, row)
