"""Points 13 and 14: the house."""

import random
import unittest

from moonseat.ahead import kinds_on, onward, ways
from moonseat.errors import VerseError
from moonseat.house import House
from moonseat.rules import Rules
from tests.helper import (
    BAD_NAMES, GreatHouseSaid, HouseSaid, book, drawn_deed, house_does, house_seen, loose_parts, planted_parts,
    refusal_of, roomy_parts, told, wide_parts, with_a_sheet,
)

FREE = (1, 4, 0)
EIGHT = ("a", "b", "c", "d", "e", "f", "g", "h")


def house_of(rules, **rows):
    """A house with a sheet for each row, its poets taking turns."""
    house = House(rules)
    for name, row in rows.items():
        house.begin(name)
        for at, kind in enumerate(row):
            house.offer(name, "xy"[at % 2], kind)
    return house


@with_a_sheet
def small_parts(rng):
    return loose_parts(rng, 5)


class HouseTest(unittest.TestCase):
    def refuse(self, house, wanted, *deed):
        """A deed is refused so, changes nothing, and leaves alone what can be taken back and done again."""
        with self.subTest(deed=deed):
            before = self.all_seen(house)
            self.assertEqual(refusal_of(lambda: getattr(house, deed[0])(*deed[1:])), wanted)
            self.assertEqual(self.all_seen(house), before)

    def all_seen(self, house):
        """All that the house tells, now and ahead of and behind each deed."""
        walker = house.twin()
        seen = [house_seen(walker)]
        while refusal_of(walker.back) is None:
            seen.append(house_seen(walker))
        while refusal_of(walker.again) is None:
            seen.append(house_seen(walker))
        return seen


class DrawnDeedsTest(HouseTest):
    """Long rows of deeds, with taking back and doing again, against a row of stands kept by the test."""

    def run_deeds(self, rng, house, said, count):
        words = []
        for each in range(count):
            draw = rng.random()
            if draw < 0.12 or draw > 0.9:
                word = "back" if draw < 0.12 else "again"
                for time in range(rng.choice((1, 1, 1, 2, 5))):
                    self.assertEqual(refusal_of(getattr(house, word)), getattr(said, word)())
            else:
                deed = drawn_deed(rng, said)
                wanted = said.do(deed)
                self.assertEqual(house_does(house, deed), wanted, (said.given, deed))
                words.append((deed[0], wanted if wanted is None or isinstance(wanted, str) else wanted[0]))
            self.assertEqual(house_seen(house), said.seen())
        return words

    def test_small_books(self):
        words = []
        for seed in range(100):
            rng = random.Random(700 + seed)
            given = small_parts(rng)
            house, said = House(Rules(*given)), HouseSaid(given)
            words += self.run_deeds(rng, house, said, 80)
            self.go_through_all(house, said)
        self.each_came(words)

    def each_came(self, words):
        """Each deed is done, and each refusal of each deed is met."""
        named = ("NoName",)
        refusals = {
            "begin": ("BadName", "Known", "Many", "Stuck"), "take": named + ("Turned",), "turn": named + ("Turned",),
            "offer": named + ("BadName", "Whole", "SamePoet", "NoKind", "Broken", "Stuck"), "drop": named,
            "amend": named + ("NoPlace", "Turned", "NoKind", "Broken", "Stuck"), "change": ("Stranded",),
            "fork": named + ("BadName", "Known", "Many"),
        }
        for word, found in refusals.items():
            for refusal in (None,) + found:
                if refusal != "Many":
                    self.assertGreater(words.count((word, refusal)), 0, (word, refusal))

    def go_through_all(self, house, said):
        """Everything taken back and done again."""
        for word in ("back", "again", "back", "again"):
            refusal = None
            while refusal is None:
                refusal = getattr(said, word)()
                self.assertEqual(refusal_of(getattr(house, word)), refusal)
                self.assertEqual(house_seen(house), said.seen())
            self.assertEqual(refusal, "NothingLeft")

    def test_great_books(self):
        words = []
        for maker in (planted_parts, roomy_parts, wide_parts):
            for seed in range(7):
                rng = random.Random(800 + seed)
                given = with_a_sheet(maker)(rng)
                words += self.run_deeds(rng, House(Rules(*given)), GreatHouseSaid(given), 70)
        self.assertGreater([refusal for word, refusal in words].count(None), 400)
        self.assertGreater(words.count(("offer", "Stuck")), 40)
        self.assertGreater(words.count(("change", "Stranded")), 0)

    def test_twins_go_their_own_ways(self):
        for seed in range(12):
            rng = random.Random(900 + seed)
            given = small_parts(rng)
            house, said = House(Rules(*given)), HouseSaid(given)
            self.run_deeds(rng, house, said, 25)
            for each in range(rng.randint(0, 4)):
                house_does(house, ("back",))
                said.back()
            other, kept = house.twin(), self.all_seen(house)
            self.assertEqual(self.all_seen(other), kept)
            self.run_deeds(rng, house, said, 15)
            self.assertEqual(self.all_seen(other), kept)
            kept = self.all_seen(house)
            self.spend(rng, other)
            self.assertEqual(self.all_seen(house), kept)
            self.go_through_all(house, said)

    def spend(self, rng, house):
        """Take all back, and do other deeds instead."""
        while refusal_of(house.back) is None:
            pass
        house.change(book(3, [FREE] * 2))
        for name in ("other", "a", "moon"):
            house.begin(name)
            house.offer(name, "x", 1)


class OpenedTest(HouseTest):
    def test_a_new_house_is_empty(self):
        rules = book(4, [FREE])
        house = House(rules)
        self.assertEqual((house.names(), house.deeds()), ([], []))
        self.assertIs(house.rules(), rules)
        self.assertIs(house.first(), rules)
        self.refuse(house, "NothingLeft", "back")
        self.refuse(house, "NothingLeft", "again")

    def test_a_book_without_sheets_opens_a_house(self):
        house = House(book(3, [(2, 2, 0)]))
        self.refuse(house, "Stuck", "begin", "a")
        house.change(book(3, [FREE]))
        house.begin("a")
        self.assertEqual(house.plan("a"), [0, 0, 0])
        self.refuse(house, ("Stranded", ("a",)), "change", book(3, [(2, 2, 0)]))
        house.drop("a")
        house.change(book(3, [(2, 2, 0)]))
        self.refuse(house, "Stuck", "begin", "a")

    def test_what_a_sheet_tells(self):
        house = house_of(book(4, [(1, 2, 1), (2, 3, 0)], [(1, 0, 2)], [(1, 1, 1)], [(1, 3, 4)]), moon=[0])
        self.assertEqual(house.verses("moon"), [("x", 0)])
        self.assertEqual((house.turned("moon"), house.onwards("moon")), (0, 2))
        self.assertEqual((house.plan("moon"), house.fitting("moon")), ([0, 0, 1, 1], [0, 1]))
        for word in ("verses", "turned", "onwards", "plan", "fitting"):
            for name in ("sun", "", "MOON", "moon "):
                self.refuse(house, "NoName", word, name)

    def test_a_whole_sheet(self):
        house = house_of(book(2, [FREE] * 2), a=[1, 0])
        self.assertEqual((house.onwards("a"), house.plan("a"), house.fitting("a")), (1, [1, 0], []))


class NamesTest(HouseTest):
    def test_names_at_their_bounds(self):
        house = House(book(2, [FREE]))
        for name in ("a", "z", "abcdefgh", "zzzzzzzz"):
            house.begin(name)
            house.fork(name, name[:3] + "new")
            house.offer(name, name, 0)
            house.drop(name[:3] + "new")
        self.assertEqual(house.names(), ["a", "z", "abcdefgh", "zzzzzzzz"])

    def test_bad_names(self):
        house = house_of(book(4, [FREE]), a=[0])
        for name in BAD_NAMES + ("abcdefghijklmnopqrstuvwxyz", "\u00e4", "0", "a-b", "a_b"):
            self.refuse(house, "BadName", "begin", name)
            self.refuse(house, "BadName", "fork", "a", name)
            self.refuse(house, "BadName", "offer", "a", name, 0)
            for deed in (("take",), ("turn",), ("drop",), ("offer", "x", 0), ("amend", 1, 0), ("fork", "new")):
                self.refuse(house, "NoName", deed[0], name, *deed[1:])


class BeginTest(HouseTest):
    def test_the_told_order(self):
        full = house_of(book(2, [FREE]), **{name: [] for name in EIGHT})
        self.refuse(full, "BadName", "begin", "A")
        self.refuse(full, "Known", "begin", "h")
        self.refuse(full, "Many", "begin", "i")
        dead = House(book(3, [(2, 2, 0)]))
        self.refuse(dead, "BadName", "begin", "")
        self.refuse(dead, "Stuck", "begin", "a")

    def test_the_eighth_and_the_ninth_sheet(self):
        house = House(book(2, [FREE]))
        for name in EIGHT:
            house.begin(name)
        self.assertEqual(house.names(), list(EIGHT))
        for each in range(2):
            self.refuse(house, "Many", "begin", "i")
            self.refuse(house, "Many", "fork", "a", "i")
            house.drop("c")
            house.fork("b", "i") if each else house.begin("c")
        self.assertEqual(house.names(), ["a", "b", "d", "e", "f", "g", "h", "i"])
        self.refuse(house, "Many", "begin", "c")


class OfferTest(HouseTest):
    RULES = book(4, [(1, 2, 1), (2, 3, 0)], [(1, 0, 2)], [(1, 1, 1)], [(1, 3, 4)])

    def test_each_alone(self):
        house = house_of(self.RULES, a=[0], w=[0, 0, 1, 1])
        self.refuse(house, "NoName", "offer", "b", "y", 0)
        self.refuse(house, "BadName", "offer", "a", "Y", 0)
        self.refuse(house, "Whole", "offer", "w", "z", 1)
        self.refuse(house, "SamePoet", "offer", "a", "x", 0)
        for kind in (-1, 2, 10 ** 9, -10 ** 9):
            self.refuse(house, "NoKind", "offer", "a", "y", kind)
        house.offer("a", "y", 0)
        self.refuse(house, ("Broken", (3, "long")), "offer", "a", "x", 0)
        house.begin("b")
        self.refuse(house, ("Broken", (1, "barred")), "offer", "b", "x", 1)
        dead = house_of(book(4, [(1, 2, 0), (3, 3, 0)]), a=[0])
        self.refuse(dead, "Stuck", "offer", "a", "y", 0)
        dead.offer("a", "y", 1)

    def test_two_at_once(self):
        house = house_of(self.RULES, a=[0], w=[0, 0, 1, 1])
        self.refuse(house, "NoName", "offer", "b", "Y", 9)
        self.refuse(house, "NoName", "offer", "B", "Y", 9)
        self.refuse(house, "BadName", "offer", "w", "", 9)
        self.refuse(house, "BadName", "offer", "a", "Y", 9)
        self.refuse(house, "Whole", "offer", "w", "y", 1)
        self.refuse(house, "Whole", "offer", "w", "x", 9)
        self.refuse(house, "SamePoet", "offer", "a", "x", 9)
        house.offer("a", "y", 0)
        self.refuse(house, "SamePoet", "offer", "a", "y", 0)
        dead = house_of(book(4, [(1, 2, 0), (3, 3, 0)]), a=[0])
        self.refuse(dead, "SamePoet", "offer", "a", "x", 0)

    def test_the_poet_of_the_last_verse_alone(self):
        house = house_of(book(9, [FREE] * 2), a=[0, 1])
        house.offer("a", "x", 0)
        house.take("a")
        self.refuse(house, "SamePoet", "offer", "a", "y", 0)
        house.take("a")
        house.offer("a", "y", 1)
        house.amend("a", 2, 0)
        self.refuse(house, "SamePoet", "offer", "a", "y", 0)
        house.fork("a", "b")
        self.refuse(house, "SamePoet", "offer", "b", "y", 0)
        house.turn("b")
        self.refuse(house, "SamePoet", "offer", "b", "y", 0)
        house.begin("c")
        house.offer("c", "y", 0)
        house.offer("c", "c", 0)

    def test_whole_goes_by_the_book_of_now(self):
        house = house_of(book(2, [FREE]), a=[0, 0])
        self.refuse(house, "Whole", "offer", "a", "z", 0)
        house.change(book(3, [FREE]))
        house.offer("a", "z", 0)
        self.refuse(house, "Whole", "offer", "a", "x", 0)
        house.back()
        house.back()
        self.refuse(house, "Whole", "offer", "a", "z", 0)


class TakeAndTurnTest(HouseTest):
    def test_take(self):
        house = house_of(book(5, [FREE] * 2), a=[0, 1, 0], e=[])
        self.refuse(house, "NoName", "take", "b")
        self.refuse(house, "Turned", "take", "e")
        house.turn("a")
        self.refuse(house, "Turned", "take", "a")
        house.offer("a", "y", 1)
        house.take("a")
        self.assertEqual((house.verses("a"), house.turned("a")), ([("x", 0), ("y", 1), ("x", 0)], 3))
        self.refuse(house, "Turned", "take", "a")

    def test_take_to_the_last_verse(self):
        house = house_of(book(3, [FREE]), a=[0, 0, 0])
        for left in (2, 1, 0):
            house.take("a")
            self.assertEqual(len(house.verses("a")), left)
        self.refuse(house, "Turned", "take", "a")

    def test_turn(self):
        house = house_of(book(5, [FREE] * 2), a=[0, 1], e=[])
        self.refuse(house, "NoName", "turn", "b")
        self.refuse(house, "Turned", "turn", "e")
        house.turn("a")
        self.assertEqual((house.turned("a"), house.turned("e")), (2, 0))
        self.refuse(house, "Turned", "turn", "a")
        house.offer("a", "x", 1)
        self.assertEqual(house.turned("a"), 2)
        house.turn("a")
        self.assertEqual(house.turned("a"), 3)


class AmendTest(HouseTest):
    RULES = book(6, [(1, 2, 0), (2, 3, 0), (1, 4, 3)])

    def test_at_each_place(self):
        house = house_of(book(5, [FREE] * 2), a=[0, 0, 0])
        for place in (1, 2, 3):
            house.amend("a", place, 1)
            self.assertEqual(house.verses("a")[place - 1], ("xyx"[place - 1], 1))
        self.assertEqual(house.verses("a"), [("x", 1), ("y", 1), ("x", 1)])
        house.amend("a", 2, 1)
        self.assertEqual(house.deeds()[-1], ("amend", "a", 2, 1))

    def test_places_where_no_verse_is(self):
        house = house_of(self.RULES, a=[0, 0, 1], e=[])
        for place in (0, -1, -3, 4, 5, 10 ** 9, -10 ** 9):
            self.refuse(house, "NoPlace", "amend", "a", place, 0)
            self.refuse(house, "NoPlace", "amend", "a", place, 9)
        for place in (0, 1, -1):
            self.refuse(house, "NoPlace", "amend", "e", place, 0)
        self.refuse(house, "NoName", "amend", "b", 0, 9)

    def test_behind_a_turned_page(self):
        house = house_of(book(5, [FREE] * 2), a=[0, 1])
        house.turn("a")
        house.offer("a", "x", 0)
        for place in (1, 2):
            self.refuse(house, "Turned", "amend", "a", place, 0)
            self.refuse(house, "Turned", "amend", "a", place, 9)
        self.refuse(house, "NoPlace", "amend", "a", 0, 0)
        self.refuse(house, "NoKind", "amend", "a", 3, 2)
        house.amend("a", 3, 1)
        self.assertEqual(house.verses("a"), [("x", 0), ("y", 1), ("x", 1)])
        self.assertEqual(house.turned("a"), 2)

    def test_the_first_verse_that_breaks_a_rule(self):
        house = house_of(self.RULES, a=[0, 0, 1, 1, 2])
        for kind in (-1, 3, 10 ** 9):
            self.refuse(house, "NoKind", "amend", "a", 1, kind)
        self.refuse(house, ("Broken", (2, "short")), "amend", "a", 1, 1)
        self.refuse(house, ("Broken", (3, "long")), "amend", "a", 3, 0)
        self.refuse(house, ("Broken", (4, "short")), "amend", "a", 4, 0)
        self.refuse(house, ("Broken", (5, "early")), "amend", "a", 2, 2)
        self.refuse(house, ("Broken", (4, "short")), "amend", "a", 4, 2)

    def test_stuck(self):
        rules = book(4, [(1, 2, 0), (3, 3, 0)])
        house = house_of(rules, a=[1, 1], b=[0, 1])
        self.refuse(house, ("Broken", (2, "short")), "amend", "a", 2, 0)
        self.refuse(house, "Stuck", "amend", "b", 2, 0)
        house.turn("b")
        self.refuse(house, "Turned", "amend", "b", 2, 0)


class ForkAndDropTest(HouseTest):
    def test_fork_refused(self):
        house = house_of(book(3, [FREE]), a=[0], b=[])
        self.refuse(house, "NoName", "fork", "c", "A")
        self.refuse(house, "NoName", "fork", "c", "a")
        self.refuse(house, "NoName", "fork", "c", "new")
        self.refuse(house, "BadName", "fork", "a", "")
        self.refuse(house, "Known", "fork", "a", "a")
        self.refuse(house, "Known", "fork", "a", "b")
        full = house_of(book(3, [FREE]), **{name: [] for name in EIGHT})
        self.refuse(full, "NoName", "fork", "i", "k")
        self.refuse(full, "BadName", "fork", "a", "I")
        self.refuse(full, "Known", "fork", "a", "h")
        self.refuse(full, "Many", "fork", "a", "i")

    def test_forks_go_their_own_ways(self):
        house = house_of(book(5, [FREE] * 2), a=[0, 1])
        house.turn("a")
        house.offer("a", "x", 1)
        house.fork("a", "b")
        self.assertEqual(house.verses("b"), [("x", 0), ("y", 1), ("x", 1)])
        self.assertEqual((house.turned("b"), house.names()), (2, ["a", "b"]))
        house.amend("b", 3, 0)
        house.offer("a", "y", 1)
        house.turn("b")
        self.assertEqual(house.verses("a"), [("x", 0), ("y", 1), ("x", 1), ("y", 1)])
        self.assertEqual(house.verses("b"), [("x", 0), ("y", 1), ("x", 0)])
        self.assertEqual((house.turned("a"), house.turned("b")), (2, 3))

    def test_drop(self):
        house = house_of(book(3, [FREE]), a=[0], b=[0, 0], c=[])
        self.refuse(house, "NoName", "drop", "d")
        house.drop("b")
        self.assertEqual(house.names(), ["a", "c"])
        self.refuse(house, "NoName", "drop", "b")
        self.refuse(house, "NoName", "verses", "b")

    def test_a_sheet_dropped_and_begun_anew_comes_last(self):
        house = house_of(book(3, [FREE]), a=[0], b=[0, 0], c=[])
        house.turn("a")
        house.drop("a")
        house.begin("a")
        self.assertEqual((house.names(), house.verses("a"), house.turned("a")), (["b", "c", "a"], [], 0))
        house.drop("b")
        house.fork("a", "b")
        self.assertEqual(house.names(), ["c", "a", "b"])
        for names in (["c", "a"], ["b", "c", "a"], ["b", "c"], ["a", "b", "c"]):
            house.back()
            self.assertEqual(house.names(), names)
        self.assertEqual(house.turned("a"), 1)

    def test_no_other_deed_moves_a_sheet(self):
        house = house_of(book(3, [FREE] * 2), a=[0], b=[0, 0], c=[])
        for deed in (("offer", "a", "y", 1), ("take", "b"), ("turn", "a"), ("amend", "b", 1, 1)):
            house_does(house, deed)
            self.assertEqual(house.names(), ["a", "b", "c"])
        house.change(book(4, [FREE] * 2))
        self.assertEqual(house.names(), ["a", "b", "c"])


class ChangeTest(HouseTest):
    def test_the_first_sheet_that_is_stranded(self):
        house = house_of(book(5, [FREE] * 3), a=[0, 1], b=[2, 2], c=[1, 0, 2])
        self.refuse(house, ("Stranded", ("a",)), "change", book(5, [FREE] * 3, [], [(0, 1, 1)]))
        self.refuse(house, ("Stranded", ("b",)), "change", book(5, [FREE] * 3, [], [(2, 1, 3)]))
        self.refuse(house, ("Stranded", ("c",)), "change", book(5, [FREE] * 3, [], [(1, 1, 1)]))
        self.refuse(house, ("Stranded", ("a",)), "change", book(5, [FREE] * 3, [], [(0, 1, 5), (2, 1, 5), (1, 1, 5)]))

    def test_the_order_is_that_of_the_sheets(self):
        house = house_of(book(5, [FREE] * 3), z=[0], a=[0])
        barred = book(5, [FREE] * 3, [], [(0, 1, 1)])
        self.refuse(house, ("Stranded", ("z",)), "change", barred)
        house.drop("z")
        house.begin("z")
        house.offer("z", "x", 0)
        self.refuse(house, ("Stranded", ("a",)), "change", barred)

    def test_kinds_and_verses_beyond_the_new_book(self):
        house = house_of(book(5, [FREE] * 3), a=[0, 1], b=[2, 1])
        self.refuse(house, ("Stranded", ("b",)), "change", book(5, [FREE] * 2))
        self.refuse(house, ("Stranded", ("a",)), "change", book(5, [FREE]))
        self.refuse(house, ("Stranded", ("a",)), "change", book(1, [FREE] * 3))
        house.change(book(2, [FREE] * 3))
        self.assertEqual((house.onwards("a"), house.fitting("a")), (1, []))

    def test_a_row_that_stands_and_yet_goes_on_to_no_sheet(self):
        house = house_of(book(4, [FREE] * 2), a=[1], b=[0, 0])
        rules = book(4, [(1, 2, 0), (3, 3, 0)])
        self.refuse(house, ("Stranded", ("b",)), "change", rules)
        house.drop("b")
        house.change(rules)
        self.assertEqual(house.plan("a"), [1, 1, 1, 0])

    def test_poets_and_turned_pages_stay(self):
        house = house_of(book(5, [FREE] * 2), a=[0, 1], b=[])
        house.turn("a")
        house.offer("a", "x", 1)
        first, rules = house.first(), book(4, [FREE] * 3)
        house.change(rules)
        self.assertEqual((house.verses("a"), house.turned("a")), ([("x", 0), ("y", 1), ("x", 1)], 2))
        self.assertEqual((house.names(), house.verses("b")), (["a", "b"], []))
        self.assertIs(house.rules(), rules)
        self.assertIs(house.first(), first)
        self.assertEqual(house.deeds()[-1], ("change", rules))
        self.refuse(house, "Turned", "amend", "a", 2, 0)
        self.assertEqual(house.plan("a"), [0, 1, 1, 0])
        house.back()
        self.assertIs(house.rules(), first)
        house.again()
        self.assertIs(house.rules(), rules)

    def test_what_is_known_of_one_book_is_not_taken_for_another(self):
        """The same verse by turns under books where it breaks a rule, is stuck, and is taken."""
        taken = book(4, [(1, 2, 0), (2, 3, 0)])
        stuck = book(4, [(1, 2, 0), (3, 3, 0)])
        house = house_of(taken, a=[0])
        for each in range(3):
            house.offer("a", "y", 0)
            house.back()
            house.change(stuck)
            self.refuse(house, "Stuck", "offer", "a", "y", 0)
            house.change(taken)
            house.offer("a", "y", 0)
            self.refuse(house, ("Stranded", ("a",)), "change", stuck)
            house.back()
            house.back()
            self.refuse(house, "Stuck", "offer", "a", "y", 0)
            house.again()
        self.assertEqual(len(house.deeds()), 2 + 2 * 3)


class BackAndAgainTest(HouseTest):
    def test_a_refused_deed_between(self):
        house = house_of(book(3, [FREE]), a=[0, 0])
        house.back()
        for deed in (("begin", "a"), ("offer", "a", "x", 0), ("drop", "b"), ("amend", "a", 0, 0), ("turn", "b"),
                     ("change", book(3, [(2, 2, 0)])), ("fork", "a", "a"), ("take", "c")):
            with self.assertRaises(VerseError):
                getattr(house, deed[0])(*deed[1:])
        house.again()
        self.assertEqual(house.verses("a"), [("x", 0), ("y", 0)])
        self.refuse(house, "NothingLeft", "again")

    def test_another_deed_ends_what_can_be_done_again(self):
        rules = book(3, [FREE])
        for deed in (("begin", "b"), ("offer", "a", "y", 0), ("take", "a"), ("amend", "a", 1, 0), ("turn", "a"),
                     ("fork", "a", "b"), ("drop", "a"), ("change", rules)):
            house = house_of(rules, a=[0, 0])
            house.back()
            getattr(house, deed[0])(*deed[1:])
            self.refuse(house, "NothingLeft", "again")
            self.assertEqual(house.deeds(), [("begin", "a"), ("offer", "a", "x", 0), deed])
            house.back()
            self.assertEqual(house.verses("a"), [("x", 0)])
            house.again()
            self.assertEqual(house.deeds()[-1], deed)

    def test_each_deed_taken_back_and_done_again(self):
        one, two = book(3, [FREE] * 2), book(4, [FREE] * 2)
        deeds = [("begin", "a"), ("offer", "a", "x", 0), ("offer", "a", "y", 1), ("amend", "a", 1, 1), ("take", "a"),
                 ("turn", "a"), ("fork", "a", "b"), ("drop", "a"), ("change", two), ("begin", "a")]
        house = House(one)
        seen = [house_seen(house)]
        for deed in deeds:
            self.assertIsNone(getattr(house, deed[0])(*deed[1:]))
            seen.append(house_seen(house))
        for each in range(2):
            for before in seen[-2::-1]:
                self.assertIsNone(house.back())
                self.assertEqual(house_seen(house), before)
            self.refuse(house, "NothingLeft", "back")
            for after in seen[1:]:
                self.assertIsNone(house.again())
                self.assertEqual(house_seen(house), after)
            self.refuse(house, "NothingLeft", "again")
        self.assertEqual(house.deeds(), deeds)


class TwinTest(HouseTest):
    def test_what_can_be_done_again_is_there_in_both(self):
        house = house_of(book(4, [FREE] * 2), a=[0, 1, 0])
        house.back()
        house.back()
        twin = house.twin()
        self.assertIsInstance(twin, House)
        self.assertIsNot(twin, house)
        house.again()
        twin.again()
        twin.again()
        self.assertEqual((len(house.verses("a")), len(twin.verses("a"))), (2, 3))
        house.begin("b")
        self.assertEqual((house.names(), twin.names()), (["a", "b"], ["a"]))
        self.refuse(twin, "NothingLeft", "again")
        for each in range(4):
            twin.back()
        self.assertEqual((twin.names(), house.names()), ([], ["a", "b"]))
        self.refuse(twin, "NothingLeft", "back")
        self.assertIs(twin.first(), house.first())

    def test_the_twin_of_a_twin(self):
        house = house_of(book(4, [FREE] * 2), a=[0])
        second = house.twin().twin()
        second.change(book(1, [FREE] * 2))
        self.refuse(second, "Whole", "offer", "a", "y", 0)
        house.offer("a", "y", 0)
        self.assertEqual(house.first().size, second.first().size)
        second.back()
        self.assertEqual(told(second.rules()), told(house.rules()))
        self.assertEqual(second.deeds(), house.deeds()[:-1])


class ToldListsTest(HouseTest):
    def spoil(self, rows):
        """Lengthen, change and empty a told list, and whatever list stands in it."""
        for row in rows:
            if isinstance(row, list):
                self.spoil(row)
        rows.append(rows[0] if rows else 9)
        rows[0] = None
        rows.reverse()
        rows.clear()

    def test_each_told_list_changed_and_asked_again(self):
        rules = book(4, [(1, 2, 1), (2, 3, 0)], [(1, 0, 2)], [(1, 1, 1)], [(1, 3, 4)])
        house = house_of(rules, a=[0], b=[0, 1], w=[0, 0, 1, 1], e=[])
        house.change(rules)
        kept = self.all_seen(house)
        for name in house.names():
            for call in (house.verses, house.plan, house.fitting):
                self.spoil(call(name))
        for call in (house.names, house.deeds):
            self.spoil(call())
        for book_told in (house.rules(), house.first(), house.deeds()[-1][1]):
            for call in (book_told.kinds, book_told.shuns, book_told.bars, book_told.dues):
                self.spoil(call())
        self.assertEqual(self.all_seen(house), kept)

    def test_lists_that_made_a_book_are_not_kept(self):
        kinds, shuns, bars, dues = [FREE] * 2, [], [], []
        house = House(Rules(3, kinds, shuns, bars, dues))
        house.begin("a")
        bars.append((0, 1, 1))
        kinds.clear()
        house.offer("a", "x", 0)
        self.assertEqual((house.onwards("a"), house.plan("a")), (4, [0, 0, 0]))

    def test_two_houses_of_one_book(self):
        rules = book(3, [FREE] * 2)
        one, two = House(rules), House(rules)
        one.begin("a")
        two.begin("b")
        one.offer("a", "x", 1)
        two.change(book(2, [FREE]))
        self.assertEqual((one.names(), two.names()), (["a"], ["b"]))
        self.assertEqual((one.rules().size, two.rules().size), (3, 2))
        one.back()
        self.assertEqual((one.verses("a"), len(two.deeds())), ([], 2))

    def test_a_sheet_tells_what_the_calls_with_a_row_tell(self):
        for seed in range(20):
            rng = random.Random(950 + seed)
            rules = Rules(*planted_parts(rng))
            house, row = House(rules), []
            house.begin("a")
            while house.fitting("a"):
                kind = rng.choice(house.fitting("a"))
                house.offer("a", "xy"[len(row) % 2], kind)
                row.append(kind)
                answers = (house.onwards("a"), house.plan("a"), house.fitting("a"))
                self.assertEqual(answers, (ways(rules, row), onward(rules, row), kinds_on(rules, row)))
            self.assertEqual(len(row), rules.size)
