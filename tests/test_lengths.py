"""Point 10: lengths."""

import random
import unittest

from moonseat.ahead import ways
from moonseat.errors import NotFree
from moonseat.lengths import lengths
from moonseat.rules import Rules
from tests.helper import book, kind_triple, stand_said, standing_rows, step_said

ENDLESS = 10 ** 9


def free_parts(rng):
    """Kinds and shuns of a free book; runs of one length are many, since they make long rounds."""
    many = rng.randint(1, 4)
    kinds = [kind_triple(rng) for each in range(many)]
    kinds = [(least, least, rest) if rng.random() < 0.5 else (least, most, rest) for least, most, rest in kinds]
    count = rng.choice((0, 0, 1, 2, 4, 8, 20))
    return kinds, [(rng.randrange(many), rng.randrange(many), rng.randint(1, 2)) for each in range(count)]


def free_books(seed, count):
    rng = random.Random(seed)
    for each in range(count):
        yield rng, *free_parts(rng)


def answers(told, count):
    """The answers for 1 to count that a beginning and a round make."""
    beginning, again = told
    made = list(beginning)
    while len(made) < count:
        made += again
    return made[:count]


def answers_said(kinds, shuns, count):
    """The answers for 1 to count, by the words of points 5 and 10, beyond the greatest size too."""
    found = []
    stands = {stand_said((ENDLESS, kinds, shuns, [], []), [])}
    for size in range(1, count + 1):
        given, endless = (size, kinds, shuns, [], []), (ENDLESS, kinds, shuns, [], [])
        steps = [(stand, kind) for stand in stands for kind in range(len(kinds))]
        found.append(any(step_said(given, *step) is not None for step in steps))
        stands = {step_said(endless, *step) for step in steps} - {None}
    return found


def lengths_said(kinds, shuns, count):
    """The shortest round that these many answers have in their later half, and the shortest beginning with it."""
    found = answers_said(kinds, shuns, count)
    for many in range(1, count // 4):
        if all(found[at] == found[at + many] for at in range(count // 2, count - many)):
            start = count // 2
            while start and found[start - 1] == found[start - 1 + many]:
                start -= 1
            return found[:start], found[start:start + many]
    return None


class LengthsTest(unittest.TestCase):
    def check_form(self, told):
        self.assertIs(type(told), tuple)
        self.assertEqual([type(answers) for answers in told], [list, list])
        self.assertTrue(all(type(answer) is bool for answers in told for answer in answers))

    def check_short(self, told):
        """The round has no shorter one in it, and the beginning doesn't end as the round does."""
        beginning, again = told
        self.assertGreater(len(again), 0)
        for many in range(1, len(again)):
            self.assertNotEqual(again, again[many:] + again[:many])
        if beginning:
            self.assertNotEqual(beginning[-1], again[-1])

    def test_against_the_counts_of_sheets(self):
        for rng, kinds, shuns in free_books(61, 120):
            told = lengths(book(rng.randint(1, 30), kinds, shuns))
            self.check_form(told)
            self.check_short(told)
            found = [ways(book(size, kinds, shuns), []) > 0 for size in range(1, 31)]
            self.assertEqual(answers(told, 30), found, (kinds, shuns))

    def test_against_all_sheets_of_small_books(self):
        for rng, kinds, shuns in free_books(62, 80):
            told = lengths(book(30, kinds, shuns))
            for size in range(1, 6):
                sheets = standing_rows((size, kinds, shuns, [], []), size)
                self.assertIs(answers(told, size)[-1], len(sheets) > 0)

    def test_far_beyond_the_greatest_size(self):
        rounds = {}
        for rng, kinds, shuns in free_books(63, 150):
            told = lengths(book(rng.randint(1, 30), kinds, shuns))
            self.assertEqual(told, lengths_said(kinds, shuns, 160), (kinds, shuns))
            rounds[len(told[1])] = True
        self.assertGreaterEqual(len(rounds), 3)

    def test_rounds_beyond_the_greatest_size(self):
        """Two pairs of kinds that never meet: their rounds come together after many verses only."""
        apart = [(one, other, 1) for one in range(4) for other in range(4) if (one < 2) != (other < 2)]
        for runs, many in (
            ((4, 3, 1, 4), 35), ((4, 3, 4, 4), 28), ((4, 1, 3, 4), 35), ((2, 2, 3, 3), 6), ((4, 4, 3, 2), 20),
        ):
            kinds = [(run, run, 0) for run in runs]
            told = lengths(book(3, kinds, apart))
            self.assertEqual(told, lengths_said(kinds, apart, 260))
            self.check_short(told)
            self.assertEqual(len(told[1]), many)

    def test_long_beginnings(self):
        """Runs of 3 and of 4 verses that make all great counts, and few of the small ones."""
        kinds = [(3, 3, 0), (3, 3, 0), (4, 4, 0), (4, 4, 3)]
        shuns = [(2, 0, 2), (3, 1, 2), (1, 1, 2), (3, 2, 1), (0, 1, 1), (3, 2, 2), (2, 0, 1), (1, 3, 2), (1, 2, 1)]
        told = lengths(book(30, kinds, shuns))
        self.assertEqual(told, lengths_said(kinds, shuns, 260))
        self.assertGreater(len(told[0]), 30)

    def test_written_out(self):
        yes, no = True, False
        for kinds, shuns, told in (
            ([(1, 4, 0)], [], ([yes] * 4, [no])),
            ([(1, 1, 0)], [], ([yes], [no])),
            ([(3, 4, 4)], [], ([no, no, yes, yes], [no])),
            ([(2, 2, 0)], [(0, 0, 1)], ([], [no])),
            ([(1, 4, 0)] * 2, [], ([], [yes])),
            ([(2, 2, 0)] * 2, [], ([], [no, yes])),
            ([(3, 3, 0)] * 4, [], ([], [no, no, yes])),
            ([(4, 4, 0), (4, 4, 0)], [], ([], [no, no, no, yes])),
            ([(2, 3, 0)] * 2, [], ([no], [yes])),
            ([(3, 4, 0)] * 3, [], ([no, no, yes, yes, no], [yes])),
            ([(1, 1, 4), (1, 1, 4)], [], ([yes, yes], [no])),
            ([(2, 2, 0), (3, 3, 0)], [], ([], [no, yes, yes, no, yes])),
        ):
            with self.subTest(kinds=kinds, shuns=shuns):
                said = lengths_said(kinds, shuns, 80)
                self.assertEqual(lengths(book(5, kinds, shuns)), said)
                self.assertEqual(said, told)

    def test_the_size_plays_no_part(self):
        for rng, kinds, shuns in free_books(64, 20):
            told = lengths(book(1, kinds, shuns))
            for size in range(2, 31):
                self.assertEqual(lengths(book(size, kinds, shuns)), told)

    def test_told_lists_lengthened_and_asked_again(self):
        for rng, kinds, shuns in free_books(65, 40):
            rules = book(7, kinds, shuns)
            told = lengths(rules)
            kept = (list(told[0]), list(told[1]))
            told[0].append(None)
            told[1].append(None)
            told[1][0] = None
            self.assertEqual(lengths(rules), kept)
            again = lengths(rules)
            again[0].clear()
            again[1].clear()
            self.assertEqual(lengths(rules), kept)

    def test_books_by_turns(self):
        books = [book(rng.randint(1, 30), kinds, shuns) for rng, kinds, shuns in free_books(66, 25)]
        twins = [Rules(rules.size, rules.kinds(), rules.shuns(), [], []) for rules in books]
        before = [lengths(rules) for rules in books]
        self.assertEqual([lengths(rules) for rules in twins[::-1]], before[::-1])
        self.assertEqual([lengths(rules) for rules in books], before)


class NotFreeTest(unittest.TestCase):
    def test_bars_and_dues(self):
        bar, due = (0, 1, 1), (1, 2, 5)
        for bars, dues in (([bar], []), ([], [due]), ([bar], [due]), ([bar] * 12, []), ([], [due] * 3)):
            with self.subTest(bars=bars, dues=dues):
                rules = book(5, [(1, 4, 0)] * 2, [(0, 1, 2)], bars, dues)
                for each in range(2):
                    with self.assertRaises(NotFree) as caught:
                        lengths(rules)
                    self.assertIs(type(caught.exception), NotFree)
                self.assertEqual((rules.bars(), rules.dues()), (bars, dues))
                self.assertEqual(lengths(book(5, [(1, 4, 0)] * 2)), ([], [True]))

    def test_shuns_alone_are_free(self):
        self.assertEqual(lengths(book(5, [(1, 4, 0)] * 2, [(0, 1, 1), (1, 0, 1)])), ([True] * 4, [False]))
