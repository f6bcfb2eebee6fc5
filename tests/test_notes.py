"""Points 15 and 16: the texts of rule books and houses."""

import random
import re
import unittest

from moonseat.errors import BadRow, VerseError
from moonseat.house import House
from moonseat.notes import house_text, read_house, read_rules, rules_text
from moonseat.rules import Rules
from tests.helper import (
    GreatHouseSaid, HouseSaid, book, drawn_deed, house_does, house_seen, loose_parts, planted_parts, random_books,
    refusal_of, roomy_parts, told, wide_parts, with_a_sheet,
)

FREE = (1, 4, 0)
NUMBER = "(0|[1-9][0-9]{0,3})"
RULES_ROW = re.compile(f"(size) {NUMBER}|(kind|shun|bar|due) {NUMBER} {NUMBER} {NUMBER}")
RULES_ORDER = re.compile("s(k{1,4}(h{0,20}(b{0,12}(d{0,3})?)?)?)?")
DEED_ROW = re.compile(
    f"(begin|take|turn|drop) (.*)|(fork) (.*) (.*)|(offer) (.*) (.*) {NUMBER}|(amend) (.*) {NUMBER} {NUMBER}"
)
SIGNS = [chr(code) for code in range(32, 127) if chr(code) != "%"] + ["\n"]


def row_fits(word, numbers, size, many):
    """Whether the numbers of a row keep to the bounds of point 2."""
    if word == "size":
        return 1 <= numbers[0] <= 30
    first, second, third = numbers
    if word == "kind":
        return 1 <= first <= second <= 4 and third <= 4
    if word == "shun":
        return first < many and second < many and third in (1, 2)
    return first < many and 1 <= second <= third <= size


def rules_said(text):
    """The number of the first wrong row of a rule book's text, or the five things."""
    order, size = "", 0
    things = {"kind": [], "shun": [], "bar": [], "due": []}
    rows = text.split("\n")
    for at, row in enumerate(rows):
        found = RULES_ROW.fullmatch(row)
        if not found:
            return at
        word, *numbers = [group for group in found.groups() if group is not None]
        numbers = tuple(map(int, numbers))
        order += word[1] if word == "shun" else word[0]
        if not RULES_ORDER.fullmatch(order) or not row_fits(word, numbers, size, len(things["kind"])):
            return at
        if word == "size":
            size = numbers[0]
        else:
            things[word].append(numbers)
    return (size, *things.values()) if things["kind"] else len(rows)


def deed_said(row):
    """The deed of a row, with a book's five things for a change, or None."""
    if row.startswith("change "):
        given = rules_said(row[7:].replace(";", "\n"))
        return None if isinstance(given, int) else ("change", given)
    found = DEED_ROW.fullmatch(row)
    if not found or row.count(" ") != len([group for group in found.groups() if group is not None]) - 1:
        return None
    word, *things = [group for group in found.groups() if group is not None]
    if word in ("offer", "amend"):
        things[1 if word == "amend" else 2:] = map(int, things[1 if word == "amend" else 2:])
    return (word, *things)


def house_said(text):
    """The number of the first wrong row of a house's text, or the house as the helper keeps it."""
    first, *rows = text.split("\n")
    given = rules_said(first[5:].replace(";", "\n")) if first.startswith("open ") else 0
    if isinstance(given, int):
        return 0
    # A sign more may make a great book of a small one.
    said = GreatHouseSaid(given)
    for at, row in enumerate(rows, 1):
        deed = deed_said(row)
        if deed is None or said.do(deed) is not None:
            return at
    return said


def sign_changes(rng, text, count):
    """Texts with one sign put in, left out or exchanged, or two that stand side by side exchanged."""
    for each in range(count):
        at = rng.randint(0, len(text))
        sign = rng.choice(SIGNS if rng.random() < 0.5 else list(" 0123459;\n"))
        yield text[:at] + sign + text[at:]
        yield text[:at] + sign + text[at + 1:]
        yield text[:at] + text[at + 1:]
        yield text[:at] + text[at:at + 2][::-1] + text[at + 2:]


def row_changes(rng, text, count):
    """Texts with a row out, twice, moved, put in, cut off, or one more behind the last."""
    rows = text.split("\n")
    for each in range(count):
        at, to = rng.randrange(len(rows)), rng.randint(0, len(rows))
        less = rows[:at] + rows[at + 1:]
        for changed in (
            less, rows[:at] + [rows[at]] + rows[at:], less[:to] + [rows[at]] + less[to:], rows[:to] + [""] + rows[to:],
            rows[:to] + [rows[at]] + rows[to:], rows[:at], rows[:at] + [rows[at][::-1]] + rows[at + 1:],
        ):
            yield "\n".join(changed)


def rules_number_changes(rng, text, count):
    """Texts with a number exchanged for one at or beyond a bound, or otherwise written."""
    spots = [found.span() for found in re.finditer("[0-9]+", text)]
    for each in range(count):
        first, last = rng.choice(spots)
        number = text[first:last]
        others = [str(each) for each in range(7)] + ["29", "30", "31", "999", "9999", "10000", "12345", "99999"]
        for other in others + ["0" + number, "00" + number, "-" + number, "+" + number, number + "0", number + ".", ""]:
            yield text[:first] + other + text[last:]


class RulesTextTest(unittest.TestCase):
    def test_written_out(self):
        rules = Rules(12, [(1, 2, 0), (2, 4, 3)], [(0, 1, 2), (1, 1, 1)], [(1, 1, 12)], [(0, 10, 11)])
        text = "size 12\nkind 1 2 0\nkind 2 4 3\nshun 0 1 2\nshun 1 1 1\nbar 1 1 12\ndue 0 10 11"
        self.assertEqual(rules_text(rules), text)
        self.assertEqual(told(read_rules(text)), told(rules))
        self.assertEqual(rules_text(book(1, [(1, 1, 0)])), "size 1\nkind 1 1 0")

    def test_books_of_the_whole_range_there_and_back(self):
        for maker in (wide_parts, loose_parts, planted_parts):
            for rng, given, rules in random_books(71, 150, maker):
                text = rules_text(rules)
                self.assertEqual(rules_said(text), given)
                read = read_rules(text)
                self.assertIsInstance(read, Rules)
                self.assertEqual(told(read), given)
                self.assertEqual(rules_text(read), text)
                self.assertEqual(told(rules), given)

    def test_the_greatest_book(self):
        given = (30, [(4, 4, 4)] * 4, [(3, 3, 2)] * 20, [(3, 30, 30)] * 12, [(3, 1, 30)] * 3)
        self.assertEqual(told(read_rules(rules_text(Rules(*given)))), given)

    def test_a_told_book_keeps_its_lists_apart(self):
        text = "size 3\nkind 1 2 0\nbar 0 1 1"
        read_rules(text).kinds().append((1, 1, 1))
        read_rules(text).bars().clear()
        self.assertEqual(rules_text(read_rules(text)), text)


class RefusedRulesTest(unittest.TestCase):
    def check(self, text):
        """Against the helper's own reading; tells whether it is refused."""
        wanted = rules_said(text)
        if isinstance(wanted, int):
            self.refuse(text, wanted)
            return True
        self.assertEqual(told(read_rules(text)), wanted, repr(text))
        return False

    def refuse(self, text, at):
        with self.assertRaises(BadRow, msg=repr(text)) as caught:
            read_rules(text)
        self.assertIs(type(caught.exception), BadRow)
        self.assertEqual(caught.exception.at, at, repr(text))
        self.assertIs(type(caught.exception.at), int)

    def test_written_out(self):
        for text, at in (
            ("", 0), ("\n", 0), (" ", 0), ("size", 0), ("size ", 0), ("size 3", 1), ("size 3\n", 1), ("size 0", 0),
            ("size 30", 1), ("size 31", 0), ("size 31\nkind 9 9 9", 0), ("size 03", 0), ("size 3 ", 0), (" size 3", 0),
            ("size  3", 0), ("Size 3", 0), ("size 3 3", 0), ("size -3", 0), ("size +3", 0), ("size 00003", 0),
            ("size 3;kind 1 1 0", 0), ("kind 1 1 0", 0), ("kind 1 1 0\nsize 3", 0), ("size 3\nsize 3", 1),
            ("size 3\nkind 1 1 0\n", 2), ("size 3\nkind 1 1 0\n\n", 2), ("size 3\n\nkind 1 1 0", 1), ("\nsize 3", 0),
            ("size 3\nkind 1 1", 1), ("size 3\nkind 1 1 0 0", 1), ("size 3\nkind 1 1 ", 1), ("size 3\nkind 1  1 0", 1),
            ("size 3\nkind 1 1 0 ", 1), ("size 3\nkind 1 1 00", 1), ("size 3\nkind 01 1 0", 1), ("size 3\nki", 1),
            ("size 3\nkind 1 1 0\nsize 3", 2), ("size 3\nkind 1 1 0\nkin 1 1 0", 2), ("size 3\nkind 1 1 x", 1),
            ("size 3\nshun 0 0 1", 1), ("size 3\nbar 0 1 1", 1), ("size 3\ndue 0 1 1", 1), ("size 3\nkind", 1),
        ):
            with self.subTest(text=text):
                self.assertEqual(rules_said(text), at)
                self.refuse(text, at)

    def test_the_order_of_the_rows(self):
        rows = {"kind": "kind 1 1 0", "shun": "shun 0 0 1", "bar": "bar 0 1 1", "due": "due 0 1 1"}
        words = list(rows)
        for one in words[1:]:
            for two in words:
                text = "\n".join(["size 3", rows["kind"], rows[one], rows[two]])
                if words.index(one) <= words.index(two):
                    self.assertEqual(rules_text(read_rules(text)), text)
                else:
                    self.refuse(text, 3)

    def test_counts_at_and_beyond_their_bounds(self):
        head, kind = ["size 3", "kind 1 1 0"], "kind 1 1 0"
        for row, most, ahead in ((kind, 4, 1), ("shun 0 0 1", 20, 2), ("bar 0 1 1", 12, 2), ("due 0 1 1", 3, 2)):
            fine = "\n".join(head[:ahead] + [row] * most)
            self.assertEqual(rules_text(read_rules(fine)), fine)
            self.refuse(fine + "\n" + row, ahead + most)
            self.refuse(fine + ("\n" + row) * 3, ahead + most)

    def test_numbers_at_and_beyond_their_bounds(self):
        head = "size 5\nkind 1 2 0\nkind 1 2 0\n"
        for row, right in (
            ("kind 4 4 4", True), ("kind 1 4 0", True), ("kind 0 1 0", False), ("kind 2 1 0", False),
            ("kind 1 5 0", False), ("kind 5 5 0", False), ("kind 1 1 5", False), ("kind 1 1 9999", False),
            ("shun 1 1 2", True), ("shun 2 0 1", False), ("shun 0 2 1", False), ("shun 0 0 0", False),
            ("shun 0 0 3", False), ("bar 1 1 5", True), ("bar 0 5 5", True), ("bar 2 1 1", False),
            ("bar 0 0 1", False), ("bar 0 2 1", False), ("bar 0 1 6", False), ("bar 0 6 6", False),
            ("due 1 1 5", True), ("due 2 1 1", False), ("due 0 0 1", False), ("due 0 5 4", False), ("due 0 1 6", False),
        ):
            with self.subTest(row=row):
                if right:
                    self.assertEqual(rules_text(read_rules(head + row)), head + row)
                else:
                    self.refuse(head + row, 3)

    def test_a_row_names_kinds_that_stand_ahead_of_it(self):
        self.refuse("size 5\nkind 1 1 0\nshun 0 1 1\nkind 1 1 0", 2)

    def test_changed_texts(self):
        found = []
        for maker in (wide_parts, loose_parts, planted_parts):
            for rng, given, rules in random_books(72, 40, maker):
                text = rules_text(rules)
                for changes in (sign_changes, row_changes, rules_number_changes):
                    found += [self.check(changed) for changed in changes(rng, text, 8)]
        self.assertGreater(found.count(True), 5000)
        self.assertGreater(found.count(False), 500)

    def test_each_text_cut_off(self):
        for rng, given, rules in random_books(73, 6, wide_parts):
            text = rules_text(rules)
            for at in range(len(text)):
                self.check(text[:at])
                self.check(text[at:])

    def test_long_texts(self):
        for row in ("kind 1 1 0", "shun 0 0 1", "x", ""):
            text = ("size 3\nkind 1 1 0\n" + (row + "\n") * 20000)[:20000]
            self.assertTrue(self.check(text))
        self.refuse("9" * 20000, 0)
        self.refuse("size " + "9" * 19000, 0)
        self.refuse("size 3\nkind 1 1 " + "0" * 19000, 1)


def drawn_house(rng, given, count, again=True):
    """A house behind many deeds, some taken back and, maybe, done again; and what the helper keeps of it."""
    house, said = House(Rules(*given)), HouseSaid(given)
    for each in range(count):
        deed = drawn_deed(rng, said)
        assert house_does(house, deed) == said.do(deed)
        if rng.random() < 0.1:
            refusal_of(house.back)
            said.back()
        if again and rng.random() < 0.05:
            refusal_of(house.again)
            said.again()
    return house, said


@with_a_sheet
def small_parts(rng):
    return loose_parts(rng, 5)


class HouseTextTest(unittest.TestCase):
    TEXT = "\n".join((
        "open size 3;kind 1 2 0;kind 1 4 0;bar 1 1 1", "begin moon", "offer moon ann 0", "fork moon sun",
        "offer moon bo 1", "turn moon", "amend sun 1 0", "take sun", "change size 4;kind 1 4 0;kind 1 3 1;due 1 1 4",
        "drop sun",
    ))

    def test_written_out(self):
        house = House(book(3, [(1, 2, 0), FREE], [], [(1, 1, 1)]))
        house.begin("moon")
        house.offer("moon", "ann", 0)
        house.fork("moon", "sun")
        house.offer("moon", "bo", 1)
        house.turn("moon")
        house.amend("sun", 1, 0)
        house.take("sun")
        house.change(book(4, [FREE, (1, 3, 1)], [], [], [(1, 1, 4)]))
        house.drop("sun")
        self.assertEqual(house_text(house), self.TEXT)
        self.same(house, read_house(self.TEXT))

    def same(self, house, read):
        """A house that is read stands alike, can be taken back alike, and has nothing to do again."""
        self.assertIsInstance(read, House)
        self.assertEqual(refusal_of(read.again), "NothingLeft")
        self.assertEqual(house_text(read), house_text(house))
        one, two = house.twin(), read
        refusal = None
        while refusal is None:
            self.assertEqual(house_seen(two), house_seen(one))
            refusal = refusal_of(one.back)
            self.assertEqual(refusal_of(two.back), refusal)
        self.assertEqual(two.deeds(), [])

    def test_a_new_house(self):
        house = House(book(2, [(1, 1, 0)]))
        self.assertEqual(house_text(house), "open size 2;kind 1 1 0")
        self.same(house, read_house("open size 2;kind 1 1 0"))

    def test_what_can_be_done_again_is_not_written(self):
        house = read_house(self.TEXT)
        rows = self.TEXT.split("\n")
        for count in range(len(rows) - 1, 0, -1):
            house.back()
            self.assertEqual(house_text(house), "\n".join(rows[:count]))
            self.same(house, read_house(house_text(house)))
        for count in range(2, len(rows) + 1):
            house.again()
            self.assertEqual(house_text(house), "\n".join(rows[:count]))

    def test_writing_and_reading_change_nothing(self):
        house = read_house(self.TEXT)
        house.back()
        before = house_seen(house)
        read_house(house_text(house)).begin("new")
        house_text(house)
        self.assertEqual(house_seen(house), before)
        house.again()
        self.assertEqual(house_text(house), self.TEXT)

    def test_the_first_book_is_written_however_often_it_is_changed(self):
        house = House(book(3, [FREE]))
        house.change(book(2, [FREE]))
        house.change(book(1, [FREE]))
        text = "open size 3;kind 1 4 0\nchange size 2;kind 1 4 0\nchange size 1;kind 1 4 0"
        self.assertEqual(house_text(house), text)
        self.same(house, read_house(text))

    def test_drawn_houses_there_and_back(self):
        changes = 0
        for seed in range(60):
            rng = random.Random(1000 + seed)
            house, said = drawn_house(rng, small_parts(rng), 40)
            self.same(house, read_house(house_text(house)))
            changes += house_text(house).count("\nchange ")
        self.assertGreater(changes, 60)

    def test_great_books_there_and_back(self):
        for maker in (planted_parts, roomy_parts):
            for rng, given, rules in random_books(74, 10, with_a_sheet(maker)):
                house = House(rules)
                house.begin("a")
                house.fork("a", "b")
                for at in range(rng.randint(1, rules.size)):
                    house.offer("a", "xy"[at % 2], rng.choice(house.fitting("a")))
                house.turn("a")
                house.change(Rules(*given))
                self.same(house, read_house(house_text(house)))

    def test_a_house_of_twenty_thousand_signs(self):
        for deeds in (("begin a", "drop a"), ("begin a", "offer a x 3", "take a", "drop a")):
            rows = ["open size 30;kind 1 4 4;kind 2 4 3;kind 1 4 4;kind 1 4 2;due 3 1 30;due 1 2 29;due 2 3 28"]
            while sum(map(len, rows)) + len(rows) < 19900:
                rows += deeds
            text = "\n".join(rows)
            self.assertEqual(house_text(read_house(text)), text)
            with self.assertRaises(BadRow) as caught:
                read_house(text + "\ndrop a")
            self.assertEqual(caught.exception.at, len(rows))

    def test_many_changes_of_great_books(self):
        rows = ["open size 30;kind 1 4 4;kind 1 4 4;kind 1 4 4;kind 1 4 4"]
        rows += [f"begin {name}" for name in "abcdefgh"]
        rows += [f"offer {name} x {at % 4}" for at, name in enumerate("abcdefgh")]
        while sum(map(len, rows)) + len(rows) < 19900:
            rows.append("change size 30;kind 1 4 0;kind 1 4 4;kind 1 4 3;kind 1 4 2;due 3 1 30;due 1 1 30")
        text = "\n".join(rows)
        self.assertEqual(house_text(read_house(text)), text)


class RefusedHousesTest(unittest.TestCase):
    def check(self, text):
        """Against the helper's own reading; tells whether it is refused."""
        said = house_said(text)
        if isinstance(said, int):
            self.refuse(text, said)
            return True
        house = read_house(text)
        self.assertEqual(house_seen(house), said.seen(), repr(text))
        self.assertEqual(house_text(house), text)
        return False

    def refuse(self, text, at):
        with self.assertRaises(BadRow, msg=repr(text)) as caught:
            read_house(text)
        self.assertIs(type(caught.exception), BadRow)
        self.assertEqual(caught.exception.at, at, repr(text))

    def test_the_first_row(self):
        tail = "\nbegin a"
        self.check("open size 2;kind 1 1 0" + tail)
        for row in (
            "", "open", "open ", "open size 2", "open size 2;", "open  size 2;kind 1 1 0", " open size 2;kind 1 1 0",
            "Open size 2;kind 1 1 0", "opens size 2;kind 1 1 0", "size 2;kind 1 1 0", "open size 2;kind 1 1 0;",
            "open size 2;kind 1 1 0 ", "open;size 2;kind 1 1 0", "change size 2;kind 1 1 0", "opensize 2;kind 1 1 0",
            "open size 2;kind 1 1 0;begin a", "open size 31;kind 1 1 0", "open size 2;;kind 1 1 0", "begin a",
            "open open size 2;kind 1 1 0", "open size 2;kind 1 1 0;kind 1 1 0;kind 1 1 0;kind 1 1 0;kind 1 1 0",
        ):
            with self.subTest(row=row):
                self.assertEqual(house_said(row + tail), 0)
                self.refuse(row + tail, 0)
                self.refuse(row, 0)
        self.refuse("open size 2\nkind 1 1 0" + tail, 0)

    def test_rows_that_are_no_deeds(self):
        head = "open size 4;kind 1 4 0;kind 1 4 0\nbegin a\noffer a x 0\n"
        for row in (
            "", " ", "begin", "begin ", "begin  b", "begin b ", " begin b", "begin b c", "Begin b", "start b", "open",
            "open size 2;kind 1 1 0", "offer a y", "offer a y ", "offer a y 0 0", "offer a y 00", "offer a y 01",
            "offer a y -1", "offer a y x", "offer a y 10000", "offer a  0", "offer a y\t0", "take", "take a a", "take ",
            "amend a 1", "amend a 1 0 0", "amend a 01 0", "amend a 1 00", "amend a one 0", "amend a 1 +1", "turn",
            "turn a a", "fork a", "fork a b c", "fork a ", "drop", "drop a a", "change", "change ", "change size 4",
            "change size 4;kind 1 4 0;kind 1 4 0;", "change  size 4;kind 1 4 0", "changed size 4;kind 1 4 0",
            "change size 4;kind 1 4 0 ", "change;size 4;kind 1 4 0", "back", "again", "twin", "names", "deeds",
            "begin b;begin c", "take a;", "verses a", "rules", "change rules",
        ):
            with self.subTest(row=row):
                self.refuse(head + row, 3)
                self.refuse(head + row + "\nbegin b\nnothing", 3)

    def test_deeds_that_are_refused_there(self):
        head = "open size 2;kind 1 2 0;kind 2 2 0\nbegin a\noffer a x 0\nbegin e\nbegin w\noffer w x 1\noffer w y 1\n"
        for row in (
            "begin a", "begin A", "begin abcdefghi", "begin 7", "offer b y 0", "offer a Y 0", "offer w z 1",
            "offer a x 0", "offer a y 2", "offer a y 9999", "offer a y 1", "take b", "take e", "amend b 1 0",
            "amend a 0 0", "amend a 2 0", "amend a 1 2", "amend w 1 0", "turn b", "turn e", "fork b c", "fork a C",
            "fork a w", "drop b", "change size 2;kind 1 2 0", "change size 1;kind 1 2 0;kind 1 2 0",
            "change size 2;kind 1 1 0;kind 2 2 0;bar 0 1 2",
        ):
            with self.subTest(row=row):
                self.assertEqual(house_said(head + row), 7)
                self.refuse(head + row, 7)
                self.refuse(head + row + "\nturn w\nno row", 7)
        self.assertEqual(house_said(head + "offer a y 0\nturn w").deeds[-1], ("turn", "w"))
        self.assertEqual(read_house(head + "offer a y 0\nturn w").turned("w"), 2)

    def test_a_sheet_too_many(self):
        text = "open size 1;kind 1 1 0" + "".join(f"\nbegin {name}" for name in "abcdefgh")
        self.assertEqual(read_house(text).names(), list("abcdefgh"))
        self.refuse(text + "\nbegin i", 9)
        self.refuse(text + "\nfork a i", 9)

    def test_a_line_feed_behind_the_last_row(self):
        self.refuse("open size 2;kind 1 1 0\n", 1)
        self.refuse("open size 2;kind 1 2 0\nbegin a\n", 2)

    def changed(self, rng, text):
        yield from sign_changes(rng, text, 10)
        yield from row_changes(rng, text, 4)
        for sign, other in ((";", "\n"), ("\n", ";"), (" ", ";"), ("open", "change"), ("change", "open"), (" ", "  ")):
            spots = [found.start() for found in re.finditer(sign, text)]
            for at in spots if len(spots) < 6 else rng.sample(spots, 6):
                yield text[:at] + other + text[at + len(sign):]

    def test_changed_texts(self):
        found = []
        for seed in range(60):
            rng = random.Random(1100 + seed)
            house, said = drawn_house(rng, small_parts(rng), 30)
            found += [self.check(text) for text in self.changed(rng, house_text(house))]
        self.assertGreater(found.count(True), 2000)
        self.assertGreater(found.count(False), 200)

    def test_each_sign_out_exchanged_or_twice(self):
        text = HouseTextTest.TEXT
        for at in range(len(text)):
            for changed in (text[:at] + text[at + 1:], text[:at] + text[at] + text[at:], text[:at]):
                self.check(changed)
            for sign in " ;\n0a":
                self.check(text[:at] + sign + text[at + 1:])
                self.check(text[:at] + sign + text[at:])

    def test_a_refused_text_leaves_nothing_behind(self):
        for each in range(3):
            with self.assertRaises(VerseError):
                read_house("open size 2;kind 1 2 0\nbegin a\nbegin a")
            self.assertEqual(read_house("open size 2;kind 1 2 0\nbegin a").names(), ["a"])
