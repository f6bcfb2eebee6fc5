"""The interface's opening: what each call with a row refuses, and in which order."""

import random
import unittest

from moonseat.ahead import kinds_on, nth, number_of, onward, ways
from moonseat.errors import BadBeat, VerseError
from moonseat.host import advice, verdict
from moonseat.rules import Rules
from moonseat.sheets import is_whole, judged, stand_of
from moonseat.tables import blocked, table_holds
from tests.helper import first_breach, loose_parts, planted_parts, random_books, random_row, told, wide_parts

# With each what else may be wrong beside the row: no sheet has this number, the list is no sheet, there is no table.
CALLS = (
    stand_of, ways, kinds_on, onward, blocked,
    lambda rules, row: nth(rules, row, 0), lambda rules, row: nth(rules, row, -1),
    lambda rules, row: number_of(rules, row, list(row)), lambda rules, row: number_of(rules, row, [7]),
    lambda rules, row: table_holds(rules, row, []), lambda rules, row: table_holds(rules, row, [[], []]),
    lambda rules, row: verdict(rules, 2, row), lambda rules, row: verdict(rules, 5, row),
    lambda rules, row: advice(rules, 3, row), lambda rules, row: advice(rules, 4, row),
)


def refusal_said(given, row):
    """What is due for the row: a name, with the place and the word where it doesn't stand, or None."""
    if not all(number in range(len(given[1])) for number in row):
        return "NoKind"
    if len(row) > given[0]:
        return "TooLong"
    breach = first_breach(given, row)
    return None if breach is None else ("Broken", *breach)


def refusal_told(call, rules, row):
    """The same as a call tells it; what isn't of the row counts as None."""
    try:
        call(rules, row)
    except VerseError as error:
        name = type(error).__name__
        if name in ("NoNumber", "NoSheet"):
            return None
        return (name, error.place, error.word) if name == "Broken" else name
    return None


def drawn_rows(rng, given, count):
    """Rows that stand, that don't, with numbers that are no kinds, that are too long, and several of these at once."""
    size, many = given[0], len(given[1])
    for each in range(count):
        row = random_row(rng, many, rng.randint(0, size))
        while row and rng.random() < 0.8 and first_breach(given, row) is not None:
            row.pop()
        if rng.random() < 0.3:
            row += random_row(rng, many, rng.choice((1, 2, size, 40)))
        if row and rng.random() < 0.3:
            row[rng.randrange(len(row))] = rng.choice((-1, many, many + 1, 10 ** 9, -10 ** 9))
        yield row


class RowsTest(unittest.TestCase):
    def test_each_call_refuses_alike(self):
        found = []
        for maker in (loose_parts, planted_parts, wide_parts):
            for rng, given, rules in random_books(81, 40, maker):
                for row in drawn_rows(rng, given, 12):
                    found.append(self.check(given, rules, row))
        for name in (None, "NoKind", "TooLong", "Broken"):
            self.assertGreater(found.count(name), 100)

    def check(self, given, rules, row):
        wanted, kept = refusal_said(given, row), list(row)
        for at, call in enumerate(CALLS):
            self.assertEqual(refusal_told(call, rules, row), wanted, (given, row, at))
        name = wanted[0] if isinstance(wanted, tuple) else wanted
        if name in ("NoKind", "TooLong"):
            self.assertEqual(refusal_told(judged, rules, row), name)
        else:
            self.assertEqual(judged(rules, row), wanted and wanted[1:])
        self.assertIs(is_whole(rules, row), wanted is None and len(row) == given[0])
        self.assertEqual((row, told(rules)), (kept, given))
        return name

    def test_a_beat_is_refused_ahead_of_all_that(self):
        for rng, given, rules in random_books(82, 40, loose_parts):
            for row in drawn_rows(rng, given, 10):
                for call in (verdict, advice):
                    with self.assertRaises(BadBeat):
                        call(rules, rng.choice((-3, 0, 1, 6, 7, 100)), row)

    def test_many_calls_by_turns(self):
        rng = random.Random(83)
        cases = []
        for each in range(12):
            given = loose_parts(rng)
            cases += [(given, Rules(*given), row) for row in drawn_rows(rng, given, 4)]
        for each in range(600):
            given, rules, row = rng.choice(cases)
            self.assertEqual(refusal_told(rng.choice(CALLS), rules, row), refusal_said(given, row))
