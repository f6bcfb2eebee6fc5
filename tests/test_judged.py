"""Point 3: judged and is_whole."""

import unittest

from moonseat.errors import NoKind, TooLong
from moonseat.sheets import is_whole, judged
from tests.helper import (
    WORDS, all_rows, book, first_breach, random_books, random_row, wide_parts, words_due,
)

FREE = (1, 4, 0)

# Each row's last verse breaks a rule, by these words alone: (words, the book's five things, row).
ONE_WORD = (
    ("barred", (5, [FREE, FREE], [], [(1, 2, 3)], []), [0, 1]),
    ("barred", (5, [FREE, FREE], [], [(1, 2, 3)], []), [0, 0, 1]),
    ("barred", (1, [FREE], [], [(0, 1, 1)], []), [0]),
    ("long", (5, [(1, 2, 0)], [], [], []), [0, 0, 0]),
    ("long", (5, [(1, 1, 0)], [], [], []), [0, 0]),
    ("long", (5, [(1, 4, 4)], [], [], []), [0, 0, 0, 0, 0]),
    ("short", (5, [(2, 3, 0), FREE], [], [], []), [0, 1]),
    ("short", (9, [(4, 4, 0), FREE], [], [], []), [1, 0, 0, 0, 1]),
    ("early", (5, [(1, 1, 2), FREE], [], [], []), [0, 1, 0]),
    ("early", (9, [(1, 1, 4), FREE], [], [], []), [0, 1, 1, 1, 0]),
    ("shun", (5, [FREE, FREE], [(0, 1, 1)], [], []), [0, 1]),
    ("shun", (5, [FREE, FREE], [(0, 1, 2)], [], []), [0, 0, 1]),
    ("shun", (5, [FREE], [(0, 0, 1)], [], []), [0, 0]),
    ("shun", (5, [FREE, FREE], [(0, 0, 2)], [], []), [0, 1, 0]),
    ("due", (5, [FREE, FREE], [], [], [(1, 1, 2)]), [0, 0]),
    ("due", (5, [FREE, FREE], [], [], [(1, 2, 3)]), [1, 0, 0]),
    ("due", (3, [FREE, FREE], [], [], [(1, 3, 3)]), [1, 1, 0]),
    ("cut", (1, [(2, 2, 0)], [], [], []), [0]),
    ("cut", (4, [FREE, (3, 3, 0)], [], [], []), [0, 0, 1, 1]),
)

# A verse that is long goes on with a run of the least or more: so it is neither short, early nor cut.
TWO_WORDS = (
    ("barred long", (5, [(1, 1, 0)], [], [(0, 2, 2)], []), [0, 0]),
    ("barred short", (5, [(2, 2, 0), FREE], [], [(1, 2, 2)], []), [0, 1]),
    ("barred early", (5, [(1, 1, 2), FREE], [], [(0, 3, 3)], []), [0, 1, 0]),
    ("barred shun", (5, [FREE, FREE], [(0, 1, 1)], [(1, 2, 2)], []), [0, 1]),
    ("barred due", (5, [FREE, FREE], [], [(0, 2, 2)], [(1, 1, 2)]), [0, 0]),
    ("barred cut", (1, [(2, 2, 0)], [], [(0, 1, 1)], []), [0]),
    ("long shun", (5, [(1, 2, 0)], [(0, 0, 2)], [], []), [0, 0, 0]),
    ("long due", (5, [(1, 1, 0), FREE], [], [], [(1, 1, 2)]), [0, 0]),
    ("short early", (5, [(1, 1, 2), (2, 2, 0)], [], [], []), [0, 1, 0]),
    ("short shun", (5, [(2, 2, 0), FREE], [(0, 1, 1)], [], []), [0, 1]),
    ("short due", (5, [(2, 2, 0), FREE], [], [], [(0, 2, 2)]), [0, 1]),
    ("short cut", (2, [(2, 2, 0), (2, 2, 0)], [], [], []), [0, 1]),
    ("early shun", (5, [(1, 1, 2), FREE], [(0, 0, 2)], [], []), [0, 1, 0]),
    ("early due", (5, [(1, 1, 2), FREE], [], [], [(1, 3, 3)]), [0, 1, 0]),
    ("early cut", (4, [(2, 2, 2), FREE], [], [], []), [0, 0, 1, 0]),
    ("shun due", (5, [FREE, FREE], [(0, 1, 1)], [], [(0, 2, 2)]), [0, 1]),
    ("shun cut", (2, [FREE, (2, 2, 0)], [(0, 1, 1)], [], []), [0, 1]),
    ("due cut", (1, [(2, 2, 0), FREE], [], [], [(1, 1, 1)]), [0]),
)
NEVER_BOTH = {("long", "short"), ("long", "early"), ("long", "cut")}


class WordsTest(unittest.TestCase):
    def check(self, words, given, row):
        with self.subTest(words=words, row=row):
            self.assertEqual(words_due(given, row, len(row)), words.split())
            self.assertEqual(judged(book(*given), row), (len(row), words.split()[0]))
            self.assertIsNone(judged(book(*given), row[:-1]))

    def test_each_word_by_itself(self):
        self.assertEqual({words for words, given, row in ONE_WORD}, set(WORDS))
        for case in ONE_WORD:
            self.check(*case)

    def test_two_words_at_once_wherever_both_can_be(self):
        pairs = {(one, two) for at, one in enumerate(WORDS) for two in WORDS[at + 1:]}
        self.assertEqual({tuple(words.split()) for words, given, row in TWO_WORDS}, pairs - NEVER_BOTH)
        for case in TWO_WORDS:
            self.check(*case)

    def test_just_within_each_rule(self):
        for given, row in (
            ((5, [FREE, FREE], [], [(1, 2, 3)], []), [1, 0, 0, 1, 1]),
            ((5, [(1, 2, 0), FREE], [], [], []), [0, 0, 1, 0, 0]),
            ((4, [(2, 3, 0), FREE], [], [], []), [0, 0, 1, 1]),
            ((5, [(1, 2, 2), FREE], [], [], []), [0, 1, 1, 0, 0]),
            ((5, [FREE, FREE], [(0, 1, 2)], [], []), [1, 0, 1, 0, 0]),
            ((5, [FREE, FREE], [(0, 1, 1)], [], []), [1, 0, 0, 0, 0]),
            ((5, [FREE, FREE], [], [], [(1, 2, 3)]), [0, 1, 0, 0, 0]),
            ((5, [FREE, FREE], [], [], [(1, 2, 3)]), [0, 0, 1, 0, 0]),
            ((4, [FREE, (3, 3, 0)], [], [], []), [0, 1, 1, 1]),
        ):
            with self.subTest(row=row, given=given):
                self.assertIsNone(judged(book(*given), row))
                self.assertTrue(is_whole(book(*given), row))

    def test_the_first_verse_goes_ahead_of_a_later_ones_word(self):
        given = (5, [(1, 2, 0), FREE], [], [(0, 4, 4)], [])
        self.assertEqual(judged(book(*given), [0, 0, 0, 0]), (3, "long"))

    def test_the_empty_row_stands(self):
        for rng, given, rules in random_books(11, 50, wide_parts):
            self.assertIsNone(judged(rules, []))


class AgainstTheWordsTest(unittest.TestCase):
    def test_all_rows_of_small_books(self):
        for rng, given, rules in random_books(12, 150):
            many = rules.many()
            length = min(rules.size, {1: 9, 2: 6, 3: 4, 4: 3}[many])
            for count in range(length + 1):
                for row in all_rows(many, count):
                    self.check(given, rules, row)

    def test_rows_of_books_from_the_whole_range(self):
        for rng, given, rules in random_books(13, 600, wide_parts):
            for each in range(10):
                self.check(given, rules, random_row(rng, rules.many(), rng.randint(0, rules.size)))

    def test_long_rows_of_loose_books(self):
        words = set()
        for rng, given, rules in random_books(14, 1500):
            row = []
            while len(row) < rules.size and first_breach(given, row) is None:
                fitting = [kind for kind in range(rules.many()) if first_breach(given, row + [kind]) is None]
                row.append(rng.choice(fitting or range(rules.many())))
            self.check(given, rules, row)
            found = judged(rules, row)
            words.add(found and found[1])
        self.assertEqual(words, set(WORDS) | {None})

    def check(self, given, rules, row):
        kept = list(row)
        said = first_breach(given, row)
        found = judged(rules, row)
        self.assertEqual(found, said, (given, row))
        self.assertIn(type(found), (tuple, type(None)))
        self.assertIs(is_whole(rules, row), said is None and len(row) == given[0], (given, row))
        self.assertEqual(row, kept)


class RefusedRowsTest(unittest.TestCase):
    RULES = book(3, [(1, 1, 0), (1, 1, 0)])

    def test_numbers_that_are_no_kinds(self):
        for wrong in (-10 ** 9, -2, -1, 2, 3, 10 ** 9):
            for row in ([wrong], [0, wrong], [wrong, 0, 1], [0, 1, 0, wrong], [0, 0, wrong]):
                with self.subTest(row=row):
                    kept = list(row)
                    with self.assertRaises(NoKind):
                        judged(self.RULES, row)
                    self.assertEqual(row, kept)

    def test_more_verses_than_the_size(self):
        for row in ([0, 1, 0, 1], [0, 0, 0, 0], [0, 1] * 40):
            with self.subTest(row=row):
                kept = list(row)
                with self.assertRaises(TooLong):
                    judged(self.RULES, row)
                self.assertEqual(row, kept)

    def test_a_refused_row_changes_nothing(self):
        for row in ([7], [0, 1, 0, 1]):
            with self.assertRaises((NoKind, TooLong)):
                judged(self.RULES, row)
            self.assertIsNone(judged(self.RULES, [0, 1, 0]))
            self.assertEqual(judged(self.RULES, [0, 0]), (2, "long"))


class ByTurnsTest(unittest.TestCase):
    def test_two_books_by_turns(self):
        one = book(4, [(1, 1, 0), (1, 4, 0)])
        two = book(3, [(2, 3, 0), (1, 4, 0), (1, 1, 0)], [], [(1, 1, 1)], [])
        for each in range(3):
            self.assertEqual(judged(one, [0, 0]), (2, "long"))
            self.assertIsNone(judged(two, [0, 0]))
            self.assertIsNone(judged(one, [1, 0, 1, 0]))
            self.assertEqual(judged(two, [1, 0]), (1, "barred"))
            self.assertEqual(judged(two, [0, 1]), (2, "short"))
            self.assertIsNone(judged(one, [0, 1]))
            with self.assertRaises(NoKind):
                judged(one, [2])
            self.assertIsNone(judged(two, [2]))

    def test_a_row_changed_behind_the_call_is_judged_anew(self):
        rules = book(4, [(1, 1, 0), (1, 4, 0)])
        row = [0]
        self.assertIsNone(judged(rules, row))
        row.append(0)
        self.assertEqual(judged(rules, row), (2, "long"))
        row[1] = 1
        self.assertIsNone(judged(rules, row))

    def test_lists_changed_behind_the_book_change_no_judgement(self):
        kinds, shuns, bars, dues = [(1, 1, 0), (1, 4, 0)], [(0, 1, 2)], [(1, 1, 1)], [(1, 2, 2)]
        rules = book(4, kinds, shuns, bars, dues)
        for rows in (kinds, shuns, bars, dues, rules.kinds(), rules.shuns(), rules.bars(), rules.dues()):
            rows.clear()
        self.assertEqual(judged(rules, [1]), (1, "barred"))
        self.assertEqual(judged(rules, [0, 0]), (2, "long"))
        self.assertEqual(judged(rules, [0, 1, 1]), (3, "shun"))
        self.assertIsNone(judged(rules, [0, 1, 0]))


class WholeTest(unittest.TestCase):
    RULES = book(3, [(1, 1, 0), (1, 3, 0)])

    def test_whole_and_not(self):
        for row in all_rows(2, 3):
            with self.subTest(row=row):
                self.assertIs(is_whole(self.RULES, row), not (row[0] == row[1] == 0 or row[1] == row[2] == 0))

    def test_too_short_and_too_long(self):
        for row in ([], [1], [1, 1], [1, 1, 1, 1], [1, 0, 1, 0, 1, 0], [1] * 500):
            with self.subTest(row=row):
                kept = list(row)
                self.assertIs(is_whole(self.RULES, row), False)
                self.assertEqual(row, kept)

    def test_numbers_that_are_no_kinds(self):
        for wrong in (-10 ** 30, -3, -2, -1, 2, 3, 10 ** 30):
            for row in ([wrong], [wrong, 1, 1], [1, wrong, 1], [1, 1, wrong], [1, 1, 1, wrong], [0, 0, wrong]):
                with self.subTest(row=row):
                    kept = list(row)
                    self.assertIs(is_whole(self.RULES, row), False)
                    self.assertEqual(row, kept)

    def test_the_least_book(self):
        self.assertIs(is_whole(book(1, [FREE]), [0]), True)
        self.assertIs(is_whole(book(1, [(2, 2, 0)]), [0]), False)
        self.assertIs(is_whole(book(1, [FREE]), []), False)
