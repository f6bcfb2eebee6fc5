"""Point 11: parted."""

import random
import unittest

from moonseat.ahead import onward
from moonseat.errors import Unlike
from moonseat.likened import parted
from moonseat.rules import Rules
from moonseat.sheets import is_whole
from tests.helper import (
    book, counter, frozen, loose_parts, nearby, parts, planted_parts, random_books, roomy_parts, sheets_of, stand_said,
    step_said, told, wide_parts,
)

FREE = (1, 4, 0)


def parted_said(one, two):
    """The pair or None, by all sheets of both gone through one by one."""
    first, second = sheets_of(frozen(one)), sheets_of(frozen(two))
    apart = sorted([(sheet, 1) for sheet in first if sheet not in second]
                   + [(sheet, 2) for sheet in second if sheet not in first])
    return apart[0] if apart else None


def turned_about(pair):
    return None if pair is None else (pair[0], 3 - pair[1])


def drawn_again(rng, given):
    """The five things of another book of the same size and count of kinds."""
    fresh = loose_parts(rng, 4)
    counts = [len(rows) for rows in fresh[2:]]
    size, kinds, *others = parts(rng, given[0], len(given[1]), *counts)
    return (size, [(1, most, rest) for least, most, rest in kinds], *others)


def pair_walk(one, two):
    """The same for greater books: from pairs of stands on, the lesser kind first."""
    counts = (counter(frozen(one)), counter(frozen(two)))
    same = set()

    def walk(row, left, right):
        if 0 in (counts[0](left), counts[1](right)):
            which = 1 if counts[0](left) else 2
            stand = (left, right)[which - 1]
            return (least_from(which, row, stand), which) if counts[which - 1](stand) else None
        if (left, right) in same or left[0] == one[0]:
            return None
        for kind in range(len(one[1])):
            found = walk(row + [kind], step_said(one, left, kind), step_said(two, right, kind))
            if found is not None:
                return found
        same.add((left, right))
        return None

    def least_from(which, row, stand):
        given = (one, two)[which - 1]
        while len(row) < given[0]:
            steps = [(kind, step_said(given, stand, kind)) for kind in range(len(given[1]))]
            kind, stand = next((kind, after) for kind, after in steps if counts[which - 1](after))
            row = row + [kind]
        return row

    return walk([], stand_said(one, []), stand_said(two, []))


class SmallBooksTest(unittest.TestCase):
    def check(self, one, two):
        """In both orders, and asked again behind a change of the told sheet."""
        wanted = parted_said(one, two)
        left, right = Rules(*one), Rules(*two)
        for first, second, told_pair in ((left, right, wanted), (right, left, turned_about(wanted))):
            for each in range(2):
                found = parted(first, second)
                self.assertEqual(found, told_pair, (one, two))
                if found is not None:
                    self.assertEqual([type(part) for part in (found, *found)], [tuple, list, int])
                    self.assertIs(is_whole(left, found[0]), wanted[1] == 1)
                    self.assertIs(is_whole(right, found[0]), wanted[1] == 2)
                    found[0].append(0)
                    found[0][0] = 9
        self.assertEqual((told(left), told(right)), (one, two))
        return wanted

    def test_one_thing_changed(self):
        rng = random.Random(51)
        found = []
        for each in range(1500):
            one = loose_parts(rng, 4)
            found.append(self.check(one, nearby(rng, one)))
        self.found_each(found, 100)

    def test_several_things_changed(self):
        rng = random.Random(52)
        found = []
        for each in range(500):
            one = two = loose_parts(rng, 4)
            for change in range(rng.randint(2, 4)):
                two = nearby(rng, two)
            found.append(self.check(one, two))
        self.found_each(found, 30)

    def test_drawn_anew(self):
        rng = random.Random(53)
        found = []
        for each in range(500):
            one = loose_parts(rng, 4)
            found.append(self.check(one, drawn_again(rng, one)))
        self.found_each(found, 20)

    def found_each(self, found, least):
        """Both answers, and both books, come often enough."""
        for which in (None, 1, 2):
            self.assertGreater([pair and pair[1] for pair in found].count(which), least)

    def test_each_size_and_count_of_kinds(self):
        rng = random.Random(54)
        for size in range(1, 5):
            for many in range(1, 5):
                one = (size, [FREE] * many, [], [], [])
                self.assertIsNone(self.check(one, one))
                for each in range(20):
                    self.check(one, nearby(rng, one))


class WrittenOutTest(unittest.TestCase):
    def test_the_least_sheet_is_told_whichever_book_has_it(self):
        one, two = book(2, [FREE] * 2, [], [(0, 1, 1)]), book(2, [FREE] * 2, [], [(1, 1, 1)])
        self.assertEqual(parted(one, two), ([0, 0], 2))
        self.assertEqual(parted(two, one), ([0, 0], 1))
        one, two = book(2, [FREE] * 2, [(0, 0, 1)]), book(2, [FREE] * 2, [(0, 1, 1)])
        self.assertEqual(parted(one, two), ([0, 0], 2))

    def test_the_least_sheet_lies_behind_common_ones(self):
        one, two = book(3, [FREE] * 3), book(3, [FREE] * 3, [(2, 0, 1)])
        self.assertEqual(parted(one, two), ([0, 2, 0], 1))

    def test_books_without_sheets(self):
        dead, stuck = book(3, [(2, 2, 0)]), book(3, [FREE], [(0, 0, 2)])
        self.assertIsNone(parted(dead, stuck))
        self.assertEqual(parted(dead, book(3, [FREE])), ([0, 0, 0], 2))
        self.assertEqual(parted(book(3, [FREE]), dead), ([0, 0, 0], 1))

    def test_rules_that_say_the_same_otherwise(self):
        one = book(4, [(1, 1, 0), FREE], [(1, 0, 2)], [(0, 2, 2), (0, 3, 3)], [(1, 1, 4), (0, 1, 1)])
        two = book(4, [(1, 3, 0), FREE], [(1, 0, 2), (1, 0, 2)], [(0, 2, 3), (1, 1, 1)], [(0, 1, 2)])
        self.assertIsNone(parted(one, two))
        self.assertIsNone(parted(two, one))

    def test_one_book_twice(self):
        for rng, given, rules in random_books(55, 20, wide_parts):
            self.assertIsNone(parted(rules, rules))


class GreatBooksTest(unittest.TestCase):
    def test_same_sheets_by_other_rules(self):
        """Rules in another order, twice, and bars cut into single places."""
        for maker in (roomy_parts, planted_parts, wide_parts):
            for rng, given, rules in random_books(56, 15, maker):
                size, kinds, shuns, bars, dues = given
                shuns, dues = (shuns + shuns[:20 - len(shuns)])[::-1], (dues + dues[:3 - len(dues)])[::-1]
                other = Rules(size, kinds, shuns, (bars + bars[:12 - len(bars)])[::-1], dues)
                self.assertIsNone(parted(rules, other))
                self.assertIsNone(parted(other, rules))

    def test_against_a_walk_by_pairs_of_stands(self):
        found = []
        for maker in (planted_parts, wide_parts):
            for rng, given, rules in random_books(57, 60, maker):
                other = nearby(rng, given)
                wanted = pair_walk(given, other)
                self.assertEqual(parted(rules, Rules(*other)), wanted, (given, other))
                self.assertEqual(parted(Rules(*other), rules), turned_about(wanted))
                found.append(wanted)
        self.assertGreater(len(found) - found.count(None), 20)
        self.assertGreater(found.count(None), 20)

    def test_a_bar_on_the_last_verse_alone(self):
        rules = book(30, [FREE] * 4)
        last = book(30, [FREE] * 4, [], [(3, 30, 30)])
        self.assertEqual(parted(rules, last), (([0, 0, 0, 0, 1] * 6)[:29] + [3], 1))
        self.assertEqual(parted(last, rules), (([0, 0, 0, 0, 1] * 6)[:29] + [3], 2))

    def test_the_whole_book_against_none(self):
        rules = book(30, [FREE] * 4, [], [], [(0, 1, 30), (1, 2, 30), (2, 3, 30)])
        dead = book(30, [FREE] * 4, [], [(0, 1, 30)], [(0, 1, 30)])
        self.assertEqual(parted(rules, dead), (onward(rules, []), 1))
        self.assertEqual(parted(dead, rules), (onward(rules, []), 2))


class UnlikeTest(unittest.TestCase):
    def refuse(self, one, two):
        for first, second in ((one, two), (two, one)):
            with self.assertRaises(Unlike) as caught:
                parted(first, second)
            self.assertIs(type(caught.exception), Unlike)

    def test_another_size(self):
        for size in range(1, 31):
            for other in {1, size - 1, size + 1, 30} - {0, size, 31}:
                self.refuse(book(size, [FREE] * 2), book(other, [FREE] * 2))

    def test_another_count_of_kinds(self):
        for many in range(1, 5):
            for other in range(1, 5):
                if many != other:
                    self.refuse(book(3, [FREE] * many), book(3, [FREE] * other))

    def test_both(self):
        self.refuse(book(3, [FREE] * 2), book(2, [FREE] * 3))

    def test_books_without_sheets(self):
        self.refuse(book(3, [(2, 2, 0)]), book(5, [(2, 2, 0)]))
        self.refuse(book(1, [(2, 2, 0)]), book(1, [(2, 2, 0)] * 2))

    def test_a_refusal_changes_nothing(self):
        one, two, three = book(2, [FREE] * 2), book(2, [FREE]), book(2, [FREE] * 2, [], [(0, 1, 2)])
        for each in range(3):
            self.refuse(one, two)
            self.assertEqual(parted(one, three), ([0, 0], 1))
            self.assertIsNone(parted(two, two))


class AskedByTurnsTest(unittest.TestCase):
    def test_many_pairs_by_turns(self):
        rng = random.Random(58)
        given = loose_parts(rng, 4)
        made = [given] + [nearby(rng, given) for each in range(7)]
        books = [Rules(*each) for each in made]
        for each in range(200):
            left, right = rng.randrange(8), rng.randrange(8)
            self.assertEqual(parted(books[left], books[right]), parted_said(made[left], made[right]))
