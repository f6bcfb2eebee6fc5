"""Point 2, and the interface under moonseat/rules.py."""

import random
import unittest

from moonseat.errors import BadRules
from moonseat.rules import Rules
from tests.helper import parts, random_books, told, wide_parts

KIND = (1, 2, 1)
FAR_BELOW, FAR_ABOVE = -10 ** 6, 10 ** 6


class GoodBooksTest(unittest.TestCase):
    def check(self, given):
        rules = Rules(*given)
        self.assertEqual(told(rules), given)
        self.assertEqual(rules.many(), len(given[1]))
        for rows in told(rules)[1:]:
            self.assertIs(type(rows), list)
            self.assertTrue(all(type(row) is tuple for row in rows))

    def test_each_count_at_each_number(self):
        rng = random.Random(1)
        for size in range(1, 31):
            self.check(parts(rng, size, 2, 3, 3, 3))
        for many in range(1, 5):
            self.check(parts(rng, 7, many, 3, 3, 3))
        for shuns in range(21):
            self.check(parts(rng, 7, 4, shuns, 0, 0))
        for bars in range(13):
            self.check(parts(rng, 7, 4, 0, bars, 0))
        for dues in range(4):
            self.check(parts(rng, 7, 4, 0, 0, dues))

    def test_books_from_the_whole_range(self):
        for rng, given, rules in random_books(2, 300, wide_parts):
            self.check(given)

    def test_least_and_greatest_book(self):
        self.check((1, [(1, 1, 0)], [], [], []))
        self.check((30, [(4, 4, 4)] * 4, [(3, 3, 2)] * 20, [(3, 30, 30)] * 12, [(3, 1, 30)] * 3))

    def test_each_good_kind(self):
        for least in range(1, 5):
            for most in range(least, 5):
                for rest in range(5):
                    self.check((3, [(least, most, rest)], [], [], []))

    def test_each_good_shun(self):
        for one in range(4):
            for other in range(4):
                for far in (1, 2):
                    self.check((3, [KIND] * 4, [(one, other, far)], [], []))

    def test_each_good_span(self):
        for kind in range(3):
            for first in range(1, 6):
                for last in range(first, 6):
                    self.check((5, [KIND] * 3, [], [(kind, first, last)], []))
                    self.check((5, [KIND] * 3, [], [], [(kind, first, last)]))

    def test_equal_ones_stand_twice_and_order_stays(self):
        kinds = [(2, 3, 1), (1, 1, 0), (2, 3, 1)]
        shuns = [(2, 0, 1), (0, 1, 2), (2, 0, 1)]
        bars = [(1, 4, 5), (0, 1, 1), (1, 4, 5)]
        dues = [(2, 2, 3), (0, 1, 5), (2, 2, 3)]
        self.check((5, kinds, shuns, bars, dues))


class KeptApartTest(unittest.TestCase):
    def given(self):
        return (6, [(1, 2, 0), (2, 3, 4)], [(0, 1, 2)], [(1, 1, 2)], [(0, 3, 6)])

    def test_nothing_handed_in_is_changed(self):
        given = self.given()
        Rules(*given)
        self.assertEqual(given, self.given())

    def test_lists_handed_in_are_not_kept(self):
        given = self.given()
        rules = Rules(*given)
        for rows in given[1:]:
            rows.append((0, 1, 1))
            rows[0] = (1, 1, 1)
        self.assertEqual(told(rules), self.given())
        self.assertEqual(rules.many(), 2)

    def test_lists_told_are_new_ones(self):
        rules = Rules(*self.given())
        for rows in told(rules)[1:]:
            rows.append((0, 1, 1))
            rows[0] = (1, 1, 1)
        self.assertEqual(told(rules), self.given())
        self.assertEqual(rules.many(), 2)
        for one, two in zip(told(rules)[1:], told(rules)[1:]):
            self.assertIsNot(one, two)

    def test_one_list_handed_in_twice_makes_two(self):
        spans = [(0, 1, 2)]
        rules = Rules(4, [KIND], [], spans, spans)
        rules.bars().append((0, 3, 3))
        spans.clear()
        self.assertEqual((rules.bars(), rules.dues()), ([(0, 1, 2)], [(0, 1, 2)]))

    def test_a_second_book_beside(self):
        one = Rules(*self.given())
        two = Rules(3, [KIND], [], [], [])
        self.assertEqual(told(one), self.given())
        self.assertEqual(told(two), (3, [KIND], [], [], []))
        self.assertEqual((one.many(), two.many()), (2, 1))

    def test_a_refused_book_changes_nothing(self):
        rules = Rules(*self.given())
        given = self.given()
        given[3].append((2, 1, 1))
        kept = [list(rows) for rows in given[1:]]
        with self.assertRaises(BadRules):
            Rules(*given)
        self.assertEqual(list(given[1:]), kept)
        self.assertEqual(told(rules), self.given())


class RefusedBooksTest(unittest.TestCase):
    def refuse(self, *given):
        with self.subTest(given):
            with self.assertRaises(BadRules) as caught:
                Rules(*given)
            self.assertIs(type(caught.exception), BadRules)

    def test_size(self):
        for size in (FAR_BELOW, -1, 0, 31, 32, FAR_ABOVE):
            self.refuse(size, [KIND], [], [], [])

    def test_counts(self):
        for many in (0, 5, 6, 300):
            self.refuse(5, [KIND] * many, [], [], [])
        for many in (21, 22, 300):
            self.refuse(5, [KIND], [(0, 0, 1)] * many, [], [])
        for many in (13, 14, 300):
            self.refuse(5, [KIND], [], [(0, 1, 1)] * many, [])
        for many in (4, 5, 300):
            self.refuse(5, [KIND], [], [], [(0, 1, 1)] * many)

    def test_no_kinds_and_rows_beside(self):
        self.refuse(5, [], [(0, 0, 1)], [(0, 1, 1)], [(0, 1, 1)])

    def test_kinds(self):
        wrong = [(least, 2, 0) for least in (FAR_BELOW, -1, 0, 3, 4, FAR_ABOVE)]
        wrong += [(2, most, 0) for most in (FAR_BELOW, -1, 0, 1, 5, 6, FAR_ABOVE)]
        wrong += [(1, 2, rest) for rest in (FAR_BELOW, -1, 5, 6, FAR_ABOVE)]
        wrong += [(5, 5, 0), (0, 0, 0), (4, 3, 2)]
        for row in wrong:
            self.refuse(5, [row], [], [], [])
            self.refuse(5, [KIND, KIND, KIND, row], [], [], [])

    def test_shuns(self):
        for many in range(1, 5):
            wrong = [(one, 0, 1) for one in (FAR_BELOW, -1, many, many + 1, FAR_ABOVE)]
            wrong += [(0, other, 1) for other in (FAR_BELOW, -1, many, many + 1, FAR_ABOVE)]
            wrong += [(0, 0, far) for far in (FAR_BELOW, -1, 0, 3, 4, FAR_ABOVE)]
            for row in wrong:
                self.refuse(5, [KIND] * many, [row], [], [])
                self.refuse(5, [KIND] * many, [(0, 0, 1)] * 19 + [row], [], [])

    def test_bars_and_dues(self):
        for size in (1, 5, 30):
            for many in (1, 4):
                wrong = [(kind, 1, size) for kind in (FAR_BELOW, -1, many, many + 1, FAR_ABOVE)]
                wrong += [(0, first, size) for first in (FAR_BELOW, -1, 0, size + 1, size + 2, FAR_ABOVE)]
                wrong += [(0, 1, last) for last in (FAR_BELOW, -1, 0, size + 1, size + 2, FAR_ABOVE)]
                wrong += [(0, 0, 0), (0, size + 1, size + 1)]
                for row in wrong:
                    self.refuse(size, [KIND] * many, [], [row], [])
                    self.refuse(size, [KIND] * many, [], [(0, 1, 1)] * 11 + [row], [])
                    self.refuse(size, [KIND] * many, [], [], [row])
                    self.refuse(size, [KIND] * many, [], [], [(0, 1, 1)] * 2 + [row])

    def test_first_behind_last(self):
        for first in range(2, 6):
            for last in range(1, first):
                self.refuse(5, [KIND], [], [(0, first, last)], [])
                self.refuse(5, [KIND], [], [], [(0, first, last)])

    def test_what_is_no_triple(self):
        for row in ((), (1,), (1, 2), (1, 2, 1, 1)):
            self.refuse(5, [row], [], [], [])
        for row in ((), (0,), (0, 1), (0, 1, 1, 1)):
            self.refuse(5, [KIND, KIND], [row], [], [])
            self.refuse(5, [KIND, KIND], [], [row], [])
            self.refuse(5, [KIND, KIND], [], [], [row])

    def test_several_at_once(self):
        self.refuse(0, [], [(9, 9, 9)], [(9, 9, 9)], [(9, 9, 9)] * 9)
