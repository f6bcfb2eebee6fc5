"""Point 12: verdict and advice."""

import random
import unittest

from moonseat.errors import BadBeat, Broken, NoKind, TooLong
from moonseat.host import advice, verdict
from moonseat.rules import Rules
from moonseat.sheets import is_whole, judged
from tests.helper import (
    book, first_breach, loose_parts, nearby, planted_parts, random_books, roomy_parts, standing_rows, wide_parts,
    words_due,
)

FREE = (1, 4, 0)
BEATS = (2, 3, 4, 5)


def rows_behind(given, row):
    """The rows with one verse more that stand, by kinds."""
    if len(row) == given[0]:
        return {}
    longer = {kind: row + [kind] for kind in range(len(given[1]))}
    return {kind: after for kind, after in longer.items() if not words_due(given, after, len(after))}


def verdicts(given, beat):
    """For each row that stands its verdict, from all ends backwards."""
    found = {}
    for length in range(given[0], -1, -1):
        for row in standing_rows(given, length):
            behind = {found[tuple(after)] for after in rows_behind(given, row).values()}
            if length == given[0]:
                found[tuple(row)] = "host"
            elif (length + 1) % beat == 0:
                found[tuple(row)] = "host" if behind == {"host"} else "spoiler"
            else:
                found[tuple(row)] = "host" if "host" in behind else "spoiler"
    return found


def writer(beat, row):
    return "spoiler" if (len(row) + 1) % beat == 0 else "host"


def played_out(rng, rules, beat, row, player):
    """The row written to its end: by the advice for the player, else by verses that are drawn."""
    row = list(row)
    while True:
        fitting = [] if len(row) == rules.size else [k for k in range(rules.many()) if judged(rules, row + [k]) is None]
        if not fitting:
            return row
        kind = rng.choice(fitting) if writer(beat, row) != player else advice(rules, beat, row)
        row.append(kind)
        if verdict(rules, beat, row) != player:
            return row


class SmallBooksTest(unittest.TestCase):
    def test_every_row_at_every_beat(self):
        found = []
        for rng, given, rules in random_books(61, 90, lambda rng: loose_parts(rng, 5)):
            for beat in BEATS:
                said = verdicts(given, beat)
                rows = sorted(said)
                for row in rows if len(rows) < 60 else [()] + rng.sample(rows, 60):
                    found.append(self.check(given, rules, beat, list(row), said))
        for verdict_told in ("host", "spoiler"):
            for has_advice in (True, False):
                self.assertGreater(found.count((verdict_told, has_advice)), 100)

    def check(self, given, rules, beat, row, said):
        kept = list(row)
        told, advised = verdict(rules, beat, row), advice(rules, beat, row)
        self.assertEqual(told, said[tuple(row)], (given, beat, row))
        mine = [kind for kind, after in rows_behind(given, row).items() if said[tuple(after)] == writer(beat, row)]
        self.assertEqual(advised, min(mine, default=None), (given, beat, row))
        self.assertEqual(row, kept)
        return (told, advised is not None)

    def test_all_rows_of_one_book(self):
        given = (6, [(1, 2, 1), (2, 3, 2)], [(0, 1, 2)], [], [(1, 3, 5)])
        for beat in BEATS:
            said = verdicts(given, beat)
            for row in said:
                self.check(given, book(*given), beat, list(row), said)


class WrittenOutTest(unittest.TestCase):
    def test_the_spoiler_ends_a_run_too_late_for_the_least(self):
        rules = book(3, [(1, 2, 0), (2, 2, 0)])
        self.assertEqual(verdict(rules, 3, []), "host")
        self.assertEqual(advice(rules, 3, []), 0)
        self.assertEqual(advice(rules, 3, [0]), 1)
        self.assertEqual(verdict(rules, 2, []), "host")
        self.assertEqual(advice(rules, 2, []), 1)
        self.assertEqual(verdict(rules, 2, [0]), "spoiler")
        self.assertEqual(advice(rules, 2, [0]), 0)
        self.assertEqual(verdict(rules, 2, [0, 0]), "spoiler")
        self.assertIsNone(advice(rules, 2, [0, 0]))

    def test_a_whole_sheet_is_the_hosts_whoever_wrote_last(self):
        rules = book(4, [FREE])
        for beat in BEATS:
            self.assertEqual(verdict(rules, beat, [0] * 4), "host")
            self.assertIsNone(advice(rules, beat, [0] * 4))

    def test_a_stuck_sheet_is_the_spoilers_whoever_must_write(self):
        rules = book(4, [(1, 1, 0)])
        for beat in BEATS:
            self.assertEqual(verdict(rules, beat, [0]), "spoiler")
            self.assertIsNone(advice(rules, beat, [0]))
            self.assertEqual(verdict(rules, beat, []), "spoiler")
            self.assertIsNone(advice(rules, beat, []))

    def test_the_spoilers_places_are_those_that_the_beat_divides(self):
        """At one place alone a verse may be written behind which the sheet is stuck."""
        for beat in BEATS:
            for place in range(1, 13):
                bars = [(2, first, last) for first, last in ((1, place - 1), (place + 1, 13)) if first <= last]
                rules = book(13, [FREE, FREE, (4, 4, 0)], [], bars)
                wanted = ("spoiler", 2) if place % beat == 0 else ("host", 0)
                row = ([0, 1] * 6)[:place - 1]
                self.assertEqual((verdict(rules, beat, row), advice(rules, beat, row)), wanted)
                self.assertEqual(verdict(rules, beat, []), wanted[0])
                self.assertEqual(verdict(rules, beat, row + [2]), "spoiler")
                self.assertEqual(verdict(rules, beat, row + [0]), "host")

    def test_the_least_kind_is_advised(self):
        rules = book(2, [FREE] * 4, [], [(0, 1, 1)])
        self.assertEqual(advice(rules, 2, []), 1)
        rules = book(2, [FREE] * 4, [], [(0, 2, 2), (1, 2, 2), (2, 2, 2)])
        self.assertEqual(advice(rules, 2, []), 0)
        self.assertEqual(advice(rules, 3, [2]), 3)
        self.assertIsNone(advice(rules, 2, [2]))


class PlayedOutTest(unittest.TestCase):
    def test_the_advice_keeps_the_verdict_to_the_end(self):
        ends = []
        for maker, count in ((lambda rng: loose_parts(rng, 7), 60), (planted_parts, 25), (roomy_parts, 6)):
            for rng, given, rules in random_books(62, count, maker):
                for beat in BEATS:
                    ends.append(self.check(rng, given, rules, beat))
        self.assertGreater(ends.count("host"), 30)
        self.assertGreater(ends.count("spoiler"), 30)

    def check(self, rng, given, rules, beat):
        player = verdict(rules, beat, [])
        row = played_out(rng, rules, beat, [], player)
        self.assertIsNone(first_breach(given, row))
        self.assertEqual(verdict(rules, beat, row), player, (given, beat, row))
        self.assertEqual(is_whole(rules, row), player == "host")
        self.assertIsNone(advice(rules, beat, row))
        return player

    def test_great_books_one_verse_at_a_time(self):
        """The verdict of a row is that of the rows behind it, taken by whose verse it is."""
        for maker in (wide_parts, planted_parts, roomy_parts):
            for rng, given, rules in random_books(63, 12, maker):
                for beat in BEATS:
                    row = []
                    while len(row) < given[0] and self.check_one(given, rules, beat, row):
                        row = rng.choice(list(rows_behind(given, row).values()))

    def check_one(self, given, rules, beat, row):
        behind = {kind: verdict(rules, beat, after) for kind, after in rows_behind(given, row).items()}
        found = set(behind.values())
        if writer(beat, row) == "host":
            wanted = "host" if "host" in found else "spoiler"
        else:
            wanted = "host" if found == {"host"} else "spoiler"
        self.assertEqual(verdict(rules, beat, row), wanted)
        mine = [kind for kind, told in behind.items() if told == writer(beat, row)]
        self.assertEqual(advice(rules, beat, row), min(mine, default=None))
        return behind


class RefusedTest(unittest.TestCase):
    RULES = book(3, [(1, 1, 0), (2, 2, 0)])

    def refuse(self, error, beat, row, fields=None):
        for call in (verdict, advice):
            with self.subTest(beat=beat, row=row):
                kept = list(row)
                with self.assertRaises(error) as caught:
                    call(self.RULES, beat, row)
                self.assertIs(type(caught.exception), error)
                self.assertEqual(row, kept)
                if fields is not None:
                    self.assertEqual((caught.exception.place, caught.exception.word), fields)

    def test_beats(self):
        for beat in (1, 6, 0, -1, -2, 7, 10 ** 9, -10 ** 9):
            for row in ([], [0], [0, 1, 1], [1, 1, 0]):
                self.refuse(BadBeat, beat, row)
        for beat in BEATS:
            self.assertIn(verdict(self.RULES, beat, []), ("host", "spoiler"))

    def test_a_beat_goes_ahead_of_the_row(self):
        for beat in (1, 6, 0, 10 ** 9):
            for row in ([2], [-1], [0, 0, 0, 0], [0, 0, 0, 9], [0, 0], [1, 0]):
                self.refuse(BadBeat, beat, row)

    def test_rows(self):
        for beat in BEATS:
            for wrong in (-10 ** 9, -1, 2, 10 ** 9):
                for row in ([wrong], [0, 0, wrong], [0, 0, 0, 0, wrong], [wrong, 0, 1, 1]):
                    self.refuse(NoKind, beat, row)
            for row in ([0, 0, 0, 0], [0, 1, 1, 0], [1, 0] * 20):
                self.refuse(TooLong, beat, row)
            for row, place, word in (
                ([0, 0], 2, "long"), ([1, 0, 0], 2, "short"), ([1, 1, 1], 3, "long"), ([0, 1, 0], 3, "short"),
            ):
                self.refuse(Broken, beat, row, (place, word))


class AskedByTurnsTest(unittest.TestCase):
    def test_books_rows_and_beats_by_turns(self):
        rng = random.Random(64)
        given = loose_parts(rng, 5)
        made = [given] + [nearby(rng, given) for each in range(4)]
        books = [Rules(*each) for each in made]
        said = {(at, beat): verdicts(each, beat) for at, each in enumerate(made) for beat in BEATS}
        for each in range(300):
            at, beat = rng.randrange(5), rng.choice(BEATS)
            row = rng.choice(sorted(said[at, beat]))
            self.assertEqual(verdict(books[at], beat, list(row)), said[at, beat][row])

    def test_a_row_changed_behind_the_call_is_asked_anew(self):
        rules, row = book(3, [(1, 2, 0), (2, 2, 0)]), []
        self.assertEqual((verdict(rules, 2, row), advice(rules, 2, row)), ("host", 1))
        row.append(0)
        self.assertEqual((verdict(rules, 2, row), advice(rules, 2, row)), ("spoiler", 0))
        row[0] = 1
        self.assertEqual((verdict(rules, 2, row), advice(rules, 2, row)), ("host", None))
