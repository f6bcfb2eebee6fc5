"""Point 6: ways, kinds_on, nth, number_of and onward."""

import random
import unittest

from moonseat.ahead import kinds_on, nth, number_of, onward, ways
from moonseat.errors import Broken, NoKind, NoNumber, NoSheet, TooLong
from moonseat.rules import Rules
from moonseat.sheets import is_whole, judged
from tests.helper import (
    book, planted_parts, random_books, roomy_parts, small_parts, standing_rows, wide_parts,
)

FREE = (1, 4, 0)


def beginnings(given):
    """All rows that stand, of each length, the empty one and the whole sheets too."""
    return [row for length in range(given[0] + 1) for row in standing_rows(given, length)]


def sheets_from(sheets, row):
    return [sheet for sheet in sheets if sheet[:len(row)] == row]


def standing_row(rng, rules, length):
    """A row of up to this length that stands, whether or not a sheet goes on from it."""
    row = []
    while len(row) < length:
        fitting = [kind for kind in range(rules.many()) if judged(rules, row + [kind]) is None]
        if not fitting:
            break
        row.append(rng.choice(fitting))
    return row


def some(rng, things, most):
    return things if len(things) <= most else rng.sample(things, most)


class SmallBooksTest(unittest.TestCase):
    """Against all sheets gone through one by one."""

    def books(self, seed, count):
        for rng, given, rules in random_books(seed, count, small_parts):
            yield rng, given, rules, standing_rows(given, given[0])

    def test_counts_kinds_and_least_sheets(self):
        dead = 0
        for rng, given, rules, sheets in self.books(31, 120):
            for row in some(rng, beginnings(given), 150):
                kept = list(row)
                found = sheets_from(sheets, row)
                dead += not found
                self.assertEqual(ways(rules, row), len(found), (given, row))
                fitting = sorted({sheet[len(row)] for sheet in found if len(sheet) > len(row)})
                self.assertEqual(kinds_on(rules, row), fitting, (given, row))
                self.assertEqual(onward(rules, row), found[0] if found else None, (given, row))
                self.assertEqual(row, kept)
        self.assertGreater(dead, 100)

    def test_each_sheet_of_each_number_and_back(self):
        for rng, given, rules, sheets in self.books(32, 120):
            rows = beginnings(given)
            for row in [[]] + some(rng, rows, 20) + some(rng, sheets, 5):
                kept = list(row)
                found = sheets_from(sheets, row)
                for number in some(rng, range(len(found)), 60):
                    sheet = list(found[number])
                    self.assertEqual(nth(rules, row, number), sheet, (given, row, number))
                    self.assertEqual(number_of(rules, row, sheet), number, (given, row, sheet))
                    self.assertEqual((row, sheet), (kept, found[number]))

    def test_all_numbers_of_one_book(self):
        given = (6, [(1, 2, 1), (1, 3, 0), (2, 2, 2)], [(0, 2, 2)], [(1, 3, 3)], [(2, 2, 6)])
        sheets = standing_rows(given, 6)
        self.assertGreater(len(sheets), 5)
        self.assertEqual([nth(book(*given), [], number) for number in range(len(sheets))], sheets)
        self.assertEqual([number_of(book(*given), [], sheet) for sheet in sheets], list(range(len(sheets))))

    def test_other_lists_are_no_sheets(self):
        for rng, given, rules, sheets in self.books(33, 100):
            for row in some(rng, beginnings(given), 12):
                found = sheets_from(sheets, row)
                for sheet in some(rng, found, 4) or some(rng, sheets, 2):
                    for other in self.others(rng, rules, sheet) + some(rng, sheets, 5):
                        self.check_other(rules, row, found, other)

    def others(self, rng, rules, sheet):
        """Lists that differ from a sheet by a number, by a verse less or by a verse more."""
        made = [[], sheet[:-1], sheet[1:], sheet + [sheet[-1]], sheet + [0], sheet * 2]
        for at in range(len(sheet)):
            for number in list(range(rules.many())) + [-1, rules.many(), -10 ** 30, 10 ** 30]:
                if number != sheet[at]:
                    made.append(sheet[:at] + [number] + sheet[at + 1:])
        return made

    def check_other(self, rules, row, found, other):
        kept, kept_row = list(other), list(row)
        if other in found:
            self.assertEqual(number_of(rules, row, other), found.index(other))
        else:
            with self.assertRaises(NoSheet) as caught:
                number_of(rules, row, other)
            self.assertIs(type(caught.exception), NoSheet)
        self.assertEqual((row, other), (kept_row, kept))


class WrittenOutTest(unittest.TestCase):
    GIVEN = (4, [(1, 2, 1), (2, 3, 0)], [(1, 0, 2)], [(1, 1, 1)], [(1, 3, 4)])

    def test_a_book(self):
        rules = book(*self.GIVEN)
        self.assertEqual([nth(rules, [], number) for number in range(ways(rules, []))], [[0, 0, 1, 1], [0, 1, 1, 1]])
        self.assertEqual(kinds_on(rules, []), [0])
        self.assertEqual(kinds_on(rules, [0]), [0, 1])
        self.assertEqual(onward(rules, [0, 1]), [0, 1, 1, 1])
        self.assertEqual(number_of(rules, [0], [0, 1, 1, 1]), 1)
        self.assertEqual(number_of(rules, [0, 1], [0, 1, 1, 1]), 0)

    def test_a_whole_sheet_goes_on_by_itself_alone(self):
        rules, sheet = book(*self.GIVEN), [0, 1, 1, 1]
        self.assertEqual(ways(rules, sheet), 1)
        self.assertEqual(kinds_on(rules, sheet), [])
        self.assertEqual(nth(rules, sheet, 0), sheet)
        self.assertIsNot(nth(rules, sheet, 0), sheet)
        self.assertEqual(number_of(rules, sheet, sheet), 0)
        self.assertEqual(onward(rules, sheet), sheet)
        self.assertIsNot(onward(rules, sheet), sheet)
        for number in (-1, 1):
            with self.assertRaises(NoNumber):
                nth(rules, sheet, number)
        with self.assertRaises(NoSheet):
            number_of(rules, sheet, [0, 0, 1, 1])

    def test_a_row_that_stands_and_goes_on_to_no_sheet(self):
        rules = book(3, [(2, 2, 0)])
        for row in ([], [0], [0, 0]):
            self.assertEqual(ways(rules, row), 0)
            self.assertEqual(kinds_on(rules, row), [])
            self.assertIsNone(onward(rules, row))
            for number in (-1, 0, 1):
                with self.assertRaises(NoNumber):
                    nth(rules, row, number)
            for sheet in ([], [0], [0, 0], [0, 0, 0], [0, 0, 0, 0]):
                with self.assertRaises(NoSheet):
                    number_of(rules, row, sheet)


class GreatBooksTest(unittest.TestCase):
    def test_the_count_of_sheets_by_their_runs(self):
        for many in range(2, 5):
            for most in range(1, 5):
                self.check_runs(many, most)

    def check_runs(self, many, most):
        """A sheet is a row of runs, each of 1 to most verses, and of any kind but the one ahead."""
        counts = [1]
        for size in range(1, 31):
            choices = [many if run == size else many - 1 for run in range(1, min(most, size) + 1)]
            counts.append(sum(choice * counts[size - run] for run, choice in enumerate(choices, 1)))
            if size in (1, 2, 7, 29, 30):
                rules = book(size, [(1, most, 0)] * many)
                self.assertEqual(ways(rules, []), counts[size])

    def test_a_count_beyond_all_small_numbers(self):
        rules = book(30, [FREE] * 4)
        count = ways(rules, [])
        self.assertGreater(count, 2 ** 59)
        self.assertEqual(nth(rules, [], count - 1), ([3, 3, 3, 3, 2] * 6))
        self.assertEqual(nth(rules, [], 0), ([0, 0, 0, 0, 1] * 6))
        self.assertEqual(number_of(rules, [], nth(rules, [], count // 2 + 12345)), count // 2 + 12345)
        for number in (-1, -count, count, count + 1, 10 ** 60, -10 ** 60):
            with self.assertRaises(NoNumber):
                nth(rules, [], number)

    def test_the_count_is_the_sum_over_one_verse_more(self):
        greatest = 0
        for maker in (roomy_parts, planted_parts, wide_parts):
            for rng, given, rules in random_books(34, 60, maker):
                for length in (0, rules.size // 3, rules.size - 2):
                    row = standing_row(rng, rules, length)
                    greatest = max(greatest, self.check_sum(rules, row))
        self.assertGreater(greatest, 10 ** 9)

    def check_sum(self, rules, row):
        if len(row) == rules.size:
            self.assertEqual((ways(rules, row), kinds_on(rules, row), onward(rules, row)), (1, [], row))
            return 1
        fitting = [kind for kind in range(rules.many()) if judged(rules, row + [kind]) is None]
        counts = {kind: ways(rules, row + [kind]) for kind in fitting}
        self.assertEqual(ways(rules, row), sum(counts.values()))
        self.assertEqual(kinds_on(rules, row), [kind for kind in fitting if counts[kind]])
        self.assertEqual(onward(rules, row) is None, sum(counts.values()) == 0)
        return sum(counts.values())

    def test_numbers_there_and_back(self):
        for maker, least in ((roomy_parts, 40), (planted_parts, 60)):
            checked = 0
            for rng, given, rules in random_books(35, 60, maker):
                row = standing_row(rng, rules, rng.choice((0, 0, rules.size // 2)))
                count = ways(rules, row)
                checked += count > 0
                self.check_numbers(rng, rules, row, count)
            self.assertGreaterEqual(checked, least * 2 // 3)

    def check_numbers(self, rng, rules, row, count):
        numbers = {0, 1, 2, count - 2, count - 1, count // 2, count // 2 + 1, rng.randrange(max(count, 1))}
        numbers = sorted(number for number in numbers if 0 <= number < count)
        sheets = [nth(rules, row, number) for number in numbers]
        self.assertEqual([number_of(rules, row, sheet) for sheet in sheets], numbers)
        self.assertTrue(all(is_whole(rules, sheet) and sheet[:len(row)] == row for sheet in sheets))
        self.assertTrue(all(one < two for one, two in zip(sheets, sheets[1:])))
        self.assertEqual(onward(rules, row), sheets[0] if sheets else None)
        for number in (-1, -2, count, count + 1, -10 ** 50, 10 ** 50):
            with self.assertRaises(NoNumber) as caught:
                nth(rules, row, number)
            self.assertIs(type(caught.exception), NoNumber)

    def test_the_sheet_of_another_row(self):
        for rng, given, rules in random_books(36, 30, roomy_parts):
            for kind in kinds_on(rules, []):
                for other in kinds_on(rules, []):
                    sheet = onward(rules, [other])
                    if other == kind:
                        self.assertEqual(number_of(rules, [kind], sheet), 0)
                    else:
                        with self.assertRaises(NoSheet):
                            number_of(rules, [kind], sheet)


CALLS = (
    ways, kinds_on, onward,
    lambda rules, row: nth(rules, row, 0), lambda rules, row: nth(rules, row, -1),
    lambda rules, row: nth(rules, row, 10 ** 9),
    lambda rules, row: number_of(rules, row, []), lambda rules, row: number_of(rules, row, [0, 1, 0]),
    lambda rules, row: number_of(rules, row, [9, 9, 9]),
)


class RefusedRowsTest(unittest.TestCase):
    RULES = book(3, [(1, 1, 0), (2, 2, 0)])

    def refuse(self, error, row):
        for call in CALLS:
            with self.subTest(row=row, call=call):
                kept = list(row)
                with self.assertRaises(error) as caught:
                    call(self.RULES, row)
                self.assertIs(type(caught.exception), error)
                self.assertEqual(row, kept)
                self.assertEqual(ways(self.RULES, []), 2)
                if error is Broken:
                    told = (caught.exception.place, caught.exception.word)
                    self.assertEqual(told, judged(self.RULES, row))

    def test_no_kind_goes_ahead_of_all(self):
        for wrong in (-10 ** 9, -1, 2, 10 ** 9):
            for row in ([wrong], [0, 0, wrong], [0, 0, 0, 0, wrong], [wrong, 0, 1, 1]):
                self.refuse(NoKind, row)

    def test_too_long_goes_ahead_of_broken(self):
        for row in ([0, 0, 0, 0], [0, 1, 1, 0], [1, 0] * 20):
            self.refuse(TooLong, row)

    def test_broken(self):
        for row in ([0, 0], [1, 0, 0], [1, 1, 1], [0, 1, 0], [0, 0, 1]):
            self.refuse(Broken, row)


class KeptTest(unittest.TestCase):
    """Point 1: nothing is kept, and each told list is a new one."""

    def answers(self, rules, row):
        count = ways(rules, row)
        sheets = [nth(rules, row, number) for number in range(min(count, 5))]
        numbers = [number_of(rules, row, sheet) for sheet in sheets]
        return (count, kinds_on(rules, row), onward(rules, row), sheets, numbers)

    def spoil(self, rules, row):
        """Lengthen and change all that is told."""
        told = [kinds_on(rules, row), onward(rules, row), nth(rules, row, 0), nth(rules, row, ways(rules, row) - 1)]
        for each in told:
            each.append(7)
            each[0] = 9
        sheet = nth(rules, row, 0)
        number_of(rules, row, sheet)
        sheet.clear()

    def test_told_lists_lengthened_and_asked_again(self):
        for rng, given, rules in random_books(37, 30, roomy_parts):
            row = (onward(rules, []) or [])[:4]
            if ways(rules, row):
                before = self.answers(rules, row)
                self.spoil(rules, row)
                self.assertEqual(self.answers(rules, row), before)

    def test_a_row_changed_behind_the_call_is_asked_anew(self):
        rules = book(3, [(1, 1, 0), FREE])
        row = []
        self.assertEqual(ways(rules, row), 5)
        row.append(0)
        self.assertEqual(ways(rules, row), 2)
        sheet = onward(rules, row)
        self.assertEqual(sheet, [0, 1, 0])
        row.append(1)
        self.assertEqual(sheet, [0, 1, 0])
        self.assertEqual(nth(rules, row, 1), [0, 1, 1])
        row[0] = 1
        self.assertEqual(nth(rules, row, 1), [1, 1, 1])

    def test_rows_and_books_by_turns(self):
        rng = random.Random(38)
        books = [Rules(*roomy_parts(rng)) for each in range(4)]
        books += [Rules(rules.size, rules.kinds(), rules.shuns(), rules.bars(), rules.dues()) for rules in books]
        cases = [(rules, standing_row(rng, rules, length)) for rules in books for length in (0, 1, 5)]
        before = [self.answers(rules, row) for rules, row in cases]
        self.assertEqual([self.answers(rules, row) for rules, row in cases[::-1]], before[::-1])
        for each in range(60):
            at = rng.randrange(len(cases))
            self.assertEqual(self.answers(*cases[at]), before[at])

    def test_books_that_differ_in_one_rule_by_turns(self):
        one, two = book(3, [(1, 1, 0), FREE]), book(3, [(1, 1, 0), FREE], [], [(0, 2, 2)])
        three = book(3, [(1, 1, 0), FREE], [], [], [(0, 2, 2)])
        for each in range(3):
            self.assertEqual([ways(rules, []) for rules in (one, two, three)], [5, 4, 1])
            self.assertEqual([kinds_on(rules, [1]) for rules in (two, one, three)], [[1], [0, 1], [0]])
            self.assertEqual([onward(rules, []) for rules in (three, two, one)], [[1, 0, 1], [0, 1, 0], [0, 1, 0]])

    def test_a_refusal_changes_nothing(self):
        rules = book(3, [(1, 1, 0), FREE])
        for row, number, sheet in (([], 5, [0, 0, 1]), ([0], 2, [1, 0, 1]), ([5], 0, []), ([0, 0], 0, [0, 0, 1])):
            with self.assertRaises((NoNumber, NoKind, Broken)):
                nth(rules, row, number)
            with self.assertRaises((NoSheet, NoKind, Broken)):
                number_of(rules, row, sheet)
            self.assertEqual(self.answers(rules, [1])[0], 3)
            self.assertEqual(nth(rules, [], 4), [1, 1, 1])
