"""Points 4 and 5: stand_of and step."""

import itertools
import random
import unittest

from moonseat.errors import Broken, NoKind, TooLong
from moonseat.sheets import judged, stand_of, step
from tests.helper import (
    book, first_breach, loose_parts, random_books, stand_said, standing_rows, step_said, wide_parts,
)


def few_rows(given, most=400):
    """Rows that stand, of each length, until they grow too many."""
    for length in range(given[0] + 1):
        rows = standing_rows(given, length)
        if len(rows) > most:
            return
        yield from rows


class StandTest(unittest.TestCase):
    GIVEN = (8, [(1, 2, 3), (1, 3, 1), (1, 4, 4)], [], [], [(1, 2, 3), (0, 4, 6), (2, 1, 8)])

    def test_the_empty_row(self):
        self.assertEqual(stand_of(book(*self.GIVEN), []), (0, -1, 0, -1, (0, 0, 0), (False, False, False)))
        self.assertEqual(stand_of(book(1, [(1, 1, 4)]), []), (0, -1, 0, -1, (0,), ()))

    def test_each_beginning_of_a_row(self):
        rules = book(*self.GIVEN)
        row = [0, 0, 1, 2, 1, 0, 1, 1]
        stands = [
            (0, -1, 0, -1, (0, 0, 0), (False, False, False)),
            (1, 0, 1, -1, (0, 0, 0), (False, False, False)),
            (2, 0, 2, 0, (0, 0, 0), (False, False, False)),
            (3, 1, 1, 0, (2, 0, 0), (True, False, False)),
            (4, 2, 1, 1, (1, 0, 0), (True, False, True)),
            (5, 1, 1, 2, (0, 0, 3), (True, False, True)),
            (6, 0, 1, 1, (0, 0, 2), (True, True, True)),
            (7, 1, 1, 0, (2, 0, 1), (True, True, True)),
            (8, 1, 2, 1, (1, 0, 0), (True, True, True)),
        ]
        for count, stand in enumerate(stands):
            self.assertEqual(stand_of(rules, row[:count]), stand)

    def test_waits_run_down_to_nought(self):
        rules = book(9, [(1, 1, 4), (1, 4, 0), (1, 4, 2)])
        waits = [stand_of(rules, ([0] + [1] * 4 + [2])[:count])[4] for count in range(7)]
        self.assertEqual(waits, [(0, 0, 0), (0, 0, 0), (3, 0, 0), (2, 0, 0), (1, 0, 0), (0, 0, 0), (0, 0, 0)])

    def test_a_kind_that_stands_twice_waits_by_its_latest_verse(self):
        rules = book(9, [(1, 1, 2), (1, 4, 0)])
        self.assertEqual(stand_of(rules, [0, 1, 1, 0, 1])[4], (1, 0))

    def test_a_due_is_met_within_its_places_alone(self):
        rules = book(6, [(1, 4, 0), (1, 4, 0)], [], [], [(1, 2, 3)])
        met = [stand_of(rules, row)[5] for row in ([1], [1, 1], [0, 0, 1], [0, 1, 0, 0], [1, 1, 0, 1])]
        self.assertEqual(met, [(False,), (True,), (True,), (True,), (True,)])

    def test_each_field_against_the_words(self):
        for rng, given, rules in random_books(21, 120):
            for row in few_rows(given):
                kept = list(row)
                stand = stand_of(rules, row)
                self.assertEqual(stand, stand_said(given, row), (given, row))
                self.assertEqual(row, kept)
                self.check_form(stand)

    def check_form(self, stand):
        self.assertIs(type(stand), tuple)
        self.assertEqual([type(field) for field in stand], [int, int, int, int, tuple, tuple])
        self.assertTrue(all(type(wait) is int for wait in stand[4]))
        self.assertTrue(all(type(met) is bool for met in stand[5]))

    def test_rows_with_one_stand_are_gone_on_from_alike(self):
        shared = 0
        for seed in range(40):
            given = loose_parts(random.Random(seed), 6)
            rules = book(*given)
            for length in range(given[0] + 1):
                alike = {}
                for row in standing_rows(given, length)[:200]:
                    alike.setdefault(stand_of(rules, row), []).append(row)
                for rows in alike.values():
                    shared += len(rows) > 1
                    self.assertEqual(len({self.said_behind(rules, row) for row in rows[:6]}), 1, (given, rows))
        self.assertGreater(shared, 50)

    def said_behind(self, rules, row):
        """What is judged of each row that goes on from this one by up to two verses."""
        room = min(rules.size - len(row), 2)
        return tuple(
            judged(rules, row + list(more))
            for count in range(room + 1)
            for more in itertools.product(range(rules.many()), repeat=count)
        )


class RefusedStandTest(unittest.TestCase):
    RULES = book(3, [(1, 1, 0), (2, 2, 0)])

    def refuse(self, error, row):
        with self.subTest(row=row):
            kept = list(row)
            with self.assertRaises(error) as caught:
                stand_of(self.RULES, row)
            self.assertIs(type(caught.exception), error)
            self.assertEqual(row, kept)
            return caught.exception

    def test_no_kind_goes_ahead_of_all(self):
        for wrong in (-10 ** 9, -1, 2, 10 ** 9):
            for row in ([wrong], [0, 0, wrong], [0, 0, 0, 0, wrong], [wrong, 0, 1, 1]):
                self.refuse(NoKind, row)

    def test_too_long_goes_ahead_of_broken(self):
        for row in ([0, 0, 0, 0], [0, 1, 1, 0], [1, 0] * 20):
            self.refuse(TooLong, row)

    def test_broken_tells_the_first_wrong_verse(self):
        for row, place, word in (([0, 0], 2, "long"), ([1, 0, 0], 2, "short"), ([1, 1, 1], 3, "long")):
            error = self.refuse(Broken, row)
            self.assertEqual((error.place, error.word), (place, word))

    def test_broken_against_the_words(self):
        broken = 0
        for rng, given, rules in random_books(22, 600):
            row = [rng.randrange(rules.many()) for each in range(rng.randint(0, rules.size))]
            said = first_breach(given, row)
            if said is None:
                self.assertEqual(stand_of(rules, row), stand_said(given, row))
                continue
            broken += 1
            with self.assertRaises(Broken) as caught:
                stand_of(rules, row)
            self.assertEqual((caught.exception.place, caught.exception.word), said)
        self.assertGreater(broken, 100)

    def test_a_refused_row_changes_nothing(self):
        for row in ([5], [0, 1, 1, 0], [0, 0]):
            with self.assertRaises((NoKind, TooLong, Broken)):
                stand_of(self.RULES, row)
            self.assertEqual(stand_of(self.RULES, [0, 1]), (2, 1, 1, 0, (0, 0), ()))


class StepTest(unittest.TestCase):
    def test_the_step_is_the_stand_of_the_longer_row(self):
        for rng, given, rules in random_books(23, 120):
            for row in few_rows(given):
                stand = stand_of(rules, row)
                for kind in range(rules.many()):
                    self.assertEqual(step(rules, stand, kind), self.longer(rules, row + [kind]), (given, row, kind))

    def longer(self, rules, row):
        if len(row) > rules.size or judged(rules, row) is not None:
            return None
        return stand_of(rules, row)

    def test_none_where_the_place_is_the_size(self):
        rules = book(2, [(1, 4, 0), (1, 4, 0)])
        self.assertIsNone(step(rules, stand_of(rules, [0, 1]), 0))
        self.assertIsNone(step(rules, (2, -1, 0, -1, (0, 0), ()), 1))

    def test_no_kind_at_each_place(self):
        rules = book(3, [(1, 4, 0), (1, 4, 0)])
        for place in range(4):
            for wrong in (-10 ** 9, -2, -1, 2, 3, 10 ** 9):
                with self.subTest(place=place, kind=wrong):
                    stand = (place, 0, 1, 1, (0, 2), ())
                    with self.assertRaises(NoKind):
                        step(rules, stand, wrong)
                    self.assertEqual(step(rules, (0, 0, 1, 1, (0, 0), ()), 1), (1, 1, 1, 0, (0, 0), ()))


class OddStandsTest(unittest.TestCase):
    """Stands of the form of point 4, whether or not some row has them."""

    def check(self, given, rules, stand):
        for kind in range(rules.many()):
            found = step(rules, stand, kind)
            self.assertEqual(found, step_said(given, stand, kind), (given, stand, kind))
            self.assertIn(type(found), (tuple, type(None)))

    def test_all_stands_of_small_books(self):
        for given in (
            (3, [(1, 2, 1), (2, 3, 4)], [(0, 1, 2), (1, 0, 1)], [(1, 2, 2)], [(0, 2, 3)]),
            (2, [(2, 4, 0), (1, 1, 2)], [(1, 1, 2), (0, 0, 2)], [], [(1, 1, 2), (0, 1, 1)]),
            (4, [(3, 4, 3), (1, 4, 0)], [], [(0, 1, 1), (0, 4, 4)], []),
        ):
            rules = book(*given)
            kinds = (-1, 0, 1)
            waits = list(itertools.product(range(5), repeat=2))
            mets = list(itertools.product((False, True), repeat=len(given[4])))
            for stand in itertools.product(range(given[0] + 1), kinds, range(5), kinds, waits, mets):
                self.check(given, rules, stand)

    def test_stands_of_books_from_the_whole_range(self):
        taken = 0
        for maker in (wide_parts, loose_parts):
            for rng, given, rules in random_books(24, 300, maker):
                for each in range(30):
                    stand = (
                        rng.randint(0, rules.size), rng.randint(-1, rules.many() - 1), rng.randint(0, 4),
                        rng.randint(-1, rules.many() - 1),
                        tuple(rng.choice((0, 0, 0, 1, 2, 3, 4)) for kind in given[1]),
                        tuple(rng.random() < 0.5 for due in given[4]),
                    )
                    self.check(given, rules, stand)
                    taken += any(step(rules, stand, kind) is not None for kind in range(rules.many()))
        self.assertGreater(taken, 1000)

    def test_a_before_without_a_kind(self):
        rules = book(5, [(2, 4, 0), (1, 4, 0)], [(0, 1, 2)])
        self.assertIsNone(step(rules, (2, -1, 3, 0, (0, 0), ()), 1))
        self.assertEqual(step(rules, (2, -1, 3, 0, (3, 0), ()), 0), None)
        self.assertEqual(step(rules, (2, -1, 3, 1, (0, 4), ()), 0), (3, 0, 1, -1, (0, 3), ()))

    def test_a_wait_of_the_last_verses_kind_is_no_matter(self):
        rules = book(5, [(1, 4, 3), (1, 4, 0)])
        self.assertEqual(step(rules, (1, 0, 1, -1, (4, 0), ()), 0), (2, 0, 2, 0, (0, 0), ()))
        self.assertEqual(step(rules, (1, 0, 1, -1, (4, 0), ()), 1), (2, 1, 1, 0, (2, 0), ()))

    def test_a_due_is_met_where_the_stand_says_so(self):
        rules = book(3, [(1, 4, 0), (1, 4, 0)], [], [], [(1, 1, 2), (1, 1, 1)])
        self.assertIsNone(step(rules, (1, 0, 1, -1, (0, 0), (False, True)), 0))
        self.assertEqual(step(rules, (1, 0, 1, -1, (0, 0), (True, False)), 0), (2, 0, 2, 0, (0, 0), (True, False)))
        self.assertEqual(step(rules, (2, 0, 1, -1, (0, 0), (False, False)), 1), (3, 1, 1, 0, (0, 0), (False, False)))

    def test_two_books_by_turns(self):
        one = book(4, [(1, 1, 0), (1, 4, 0)])
        two = book(4, [(2, 4, 0), (1, 4, 0)])
        stand = (1, 0, 1, -1, (0, 0), ())
        for each in range(3):
            self.assertIsNone(step(one, stand, 0))
            self.assertEqual(step(two, stand, 0), (2, 0, 2, 0, (0, 0), ()))
            self.assertEqual(step(one, stand, 1), (2, 1, 1, 0, (0, 0), ()))
            self.assertIsNone(step(two, stand, 1))
