"""What the tests share: books made up from seeds, and the document's points said anew.

What is reckoned here looks at whole rows and never asks the package, so that
the two can disagree.
"""

import copy
import functools
import itertools
import random
import re

from moonseat.errors import VerseError
from moonseat.rules import Rules

WORDS = ("barred", "long", "short", "early", "shun", "due", "cut")


def book(size, kinds, shuns=(), bars=(), dues=()):
    return Rules(size, list(kinds), list(shuns), list(bars), list(dues))


def kind_triple(rng):
    least = rng.randint(1, 4)
    return (least, rng.randint(least, 4), rng.randint(0, 4))


def span(rng, many, size):
    first = rng.randint(1, size)
    return (rng.randrange(many), first, rng.randint(first, size))


def parts(rng, size, many, shuns, bars, dues):
    """The five things of a book with these counts."""
    return (
        size,
        [kind_triple(rng) for each in range(many)],
        [(rng.randrange(many), rng.randrange(many), rng.randint(1, 2)) for each in range(shuns)],
        [span(rng, many, size) for each in range(bars)],
        [span(rng, many, size) for each in range(dues)],
    )


def loose_parts(rng, most_size=9):
    """The five things of a book with few rules, so that many rows of it stand."""
    size, many = rng.randint(1, most_size), rng.randint(1, 4)
    shuns, bars, dues = rng.choice((0, 0, 1, 2, 3)), rng.choice((0, 0, 1, 2)), rng.randint(0, 3)
    size, kinds, shuns, bars, dues = parts(rng, size, many, shuns, bars, dues)
    kinds = [(min(least, 2), most, rest) if rng.random() < 0.5 else (1, most, rest) for least, most, rest in kinds]
    return size, kinds, shuns, bars, dues


def wide_parts(rng):
    """The five things of a book from anywhere in the range of point 2."""
    counts = [rng.randint(low, high) for low, high in ((1, 30), (1, 4), (0, 20), (0, 12), (0, 3))]
    return parts(rng, *counts)


def small_parts(rng):
    """The five things of a book of size 1 to 6 with few rules."""
    return loose_parts(rng, 6)


def roomy_parts(rng):
    """The five things of a book of size 20 to 30 with very many sheets."""
    size, many = rng.randint(20, 30), rng.randint(2, 4)
    size, kinds, shuns, bars, dues = parts(rng, size, many, rng.randint(0, 2), rng.randint(0, 2), rng.randint(0, 3))
    return size, [(rng.randint(1, 2), rng.randint(2, 4), rng.randint(0, 2)) for kind in kinds], shuns, bars, dues


def planted_row(rng, kinds, length):
    """A row of about this length that ends with a run that isn't cut, under these kinds alone."""
    row = []
    while True:
        others = [kind for kind in range(len(kinds)) if not row or row[-1] != kind]
        fitting = [kind for kind in others if not words_due((99, kinds, [], [], []), row + [kind], len(row) + 1)]
        if not fitting:
            return row
        kind = rng.choice(fitting)
        run = rng.randint(*kinds[kind][:2])
        if len(row) + run > length:
            return row or [kind] * run
        row += [kind] * run


def planted_parts(rng):
    """The five things of a book to the size of 30 with many rules, and yet with a whole sheet."""
    kinds = [kind_triple(rng) for each in range(rng.randint(1, 4))]
    row = planted_row(rng, kinds, rng.randint(1, 30))
    size = len(row)
    wanted = (rng.randint(0, 20), rng.randint(0, 12), rng.randint(0, 3))
    found = ([], [], [])
    for each in range(400):
        made = parts(rng, size, len(kinds), 1, 1, 1)
        for at, rows in enumerate(found):
            lone = [[], [], []]
            lone[at] = made[2 + at]
            if len(rows) < wanted[at] and first_breach((size, kinds, *lone), row) is None:
                rows += made[2 + at]
    return (size, kinds, *found)


def random_books(seed, count, maker=loose_parts):
    rng = random.Random(seed)
    for each in range(count):
        given = maker(rng)
        yield rng, given, Rules(*given)


def random_row(rng, many, length):
    """A row that stays with a kind often, so that runs grow."""
    row = []
    for each in range(length):
        row.append(row[-1] if row and rng.random() < 0.5 else rng.randrange(many))
    return row


def all_rows(many, length):
    return [list(row) for row in itertools.product(range(many), repeat=length)]


def run_length(row, place):
    """How many verses of the run at this place stand up to it."""
    count = 0
    while count < place and row[place - count - 1] == row[place - 1]:
        count += 1
    return count


def words_due(given, row, place):
    """All the words of point 3 that are due for the verse at this place, in their order."""
    size, kinds, shuns, bars, dues = given
    kind = row[place - 1]
    ahead = row[: place - 1]
    least, most, rest = kinds[kind]
    begins = not ahead or ahead[-1] != kind
    due = set()
    if any(barred == kind and place in range(first, last + 1) for barred, first, last in bars):
        due.add("barred")
    if run_length(row, place) - 1 >= most:
        due.add("long")
    if ahead and begins and run_length(row, place - 1) < kinds[ahead[-1]][0]:
        due.add("short")
    if begins and kind in ahead:
        latest = max(at for at in range(1, place) if row[at - 1] == kind)
        if place - latest - 1 < rest:
            due.add("early")
    if any(other == kind and place - far >= 1 and row[place - far - 1] == one for one, other, far in shuns):
        due.add("shun")
    if any(last == place and meant not in row[first - 1 : last] for meant, first, last in dues):
        due.add("due")
    if place == size and run_length(row, place) < least:
        due.add("cut")
    return [word for word in WORDS if word in due]


def first_breach(given, row):
    """What judged is to tell of a row of kinds that isn't too long."""
    for place in range(1, len(row) + 1):
        due = words_due(given, row[:place], place)
        if due:
            return (place, due[0])
    return None


def standing_rows(given, length):
    """All rows of this length that stand."""
    rows = [[]]
    for each in range(length):
        longer = [row + [kind] for row in rows for kind in range(len(given[1]))]
        rows = [row for row in longer if not words_due(given, row, len(row))]
    return rows


def stand_said(given, row):
    """The stand of a row that stands, by the words of point 4."""
    size, kinds, shuns, bars, dues = given
    waits = []
    for kind, (least, most, rest) in enumerate(kinds):
        if kind not in row or row[-1] == kind:
            waits.append(0)
        else:
            waits.append(max(rest - row[::-1].index(kind), 0))
    return (
        len(row),
        row[-1] if row else -1,
        run_length(row, len(row)),
        row[-2] if len(row) > 1 else -1,
        tuple(waits),
        tuple(kind in row[first - 1 : last] for kind, first, last in dues),
    )


def step_breaks(given, stand, kind):
    """Whether a verse breaks a rule behind a stand, by the words of point 5."""
    size, kinds, shuns, bars, dues = given
    place, last, length, before, waits, met = stand
    here = place + 1
    least, most, rest = kinds[kind]
    run = length + 1 if kind == last else 1
    return any((
        any(k == kind and a <= here <= b for k, a, b in bars),
        kind == last and length >= most,
        kind != last and last != -1 and length < kinds[last][0],
        kind != last and waits[kind] != 0,
        (last, kind, 1) in shuns,
        (before, kind, 2) in shuns,
        any(b == here and not m and not (k == kind and a <= here) for (k, a, b), m in zip(dues, met)),
        here == size and run < least,
    ))


def step_said(given, stand, kind):
    """The step from a stand, by the words of point 5."""
    size, kinds, shuns, bars, dues = given
    place, last, length, before, waits, met = stand
    if place == size or step_breaks(given, stand, kind):
        return None
    here = place + 1
    now = []
    for each in range(len(kinds)):
        if each == kind:
            now.append(0)
        elif each == last:
            now.append(max(kinds[each][2] - 1, 0))
        else:
            now.append(max(waits[each] - 1, 0))
    reached = tuple(m or (k == kind and a <= here <= b) for (k, a, b), m in zip(dues, met))
    return (here, kind, length + 1 if kind == last else 1, last, tuple(now), reached)


def odd_stand(rng, given, place):
    """A stand of the form of point 4 at this place, whether or not some row has it."""
    size, kinds, shuns, bars, dues = given
    many = len(kinds)
    waits = tuple(rng.choice((0, 0, 1, 2, 3, 4)) for kind in kinds)
    met = tuple(rng.random() < 0.5 for due in dues)
    return (place, rng.randint(-1, many - 1), rng.randint(0, 4), rng.randint(-1, many - 1), waits, met)


def other_field(rng, given, stand):
    """The stand with one field changed, still of the form of point 4."""
    fields = list(stand)
    while tuple(fields) == stand:
        at = rng.randrange(6)
        fields[at] = odd_stand(rng, given, rng.randint(0, given[0]))[at]
    return tuple(fields)


def closed_said(given, row, table):
    """Whether a table is closed for a row that stands, by the words of point 7."""
    size, many = given[0], len(given[1])
    if len(table) == 0 or stand_said(given, row) not in table[0]:
        return False
    for i in range(len(table)):
        for stand in table[i]:
            if stand[0] != len(row) + i or stand[0] >= size:
                return False
            for kind in range(many):
                after = step_said(given, stand, kind)
                if after is not None and (i + 1 == len(table) or after not in table[i + 1]):
                    return False
    return True


def cost_said(row, costs, sheet):
    """What a mending costs, by the words of point 8."""
    return sum(cost for verse, cost, other in zip(row, costs, sheet) if verse != other)


def shown_said(given, row, costs, prices, cost):
    """Whether prices show a number, by the words of point 9."""
    size, many = given[0], len(given[1])
    if len(prices) == 0:
        return False
    if not any(stand == stand_said(given, []) and number >= cost for stand, number in prices[0]):
        return False
    for i, pairs in enumerate(prices):
        stands = [stand for stand, number in pairs]
        following = prices[i + 1] if i + 1 < len(prices) else []
        for stand, number in pairs:
            if stand[0] != i or stands.count(stand) != 1 or (i == size and number > 0):
                return False
            for kind in range(many):
                after = step_said(given, stand, kind)
                if after is None:
                    continue
                room = [other for found, other in following if found == after]
                if not room or number > room[0] + (0 if row[i] == kind else costs[i]):
                    return False
    return True


def told(rules):
    """The five things of a rule book, as it tells them."""
    return (rules.size, rules.kinds(), rules.shuns(), rules.bars(), rules.dues())


def nearby(rng, given):
    """The five things of a book with one kind, shun, bar or due changed, one more or one less."""
    size, *lists = given
    lists = [list(rows) for rows in lists]
    which = rng.randrange(4)
    rows, fresh = lists[which], parts(rng, size, len(given[1]), 1, 1, 1)[which + 1][0]
    if which == 0:
        least, most, rest = rng.choice(rows)
        near = [(least, most, abs(rest - 1)), (1, most, rest), (least, least, rest), (least, 4, rest), fresh]
        rows[rng.randrange(len(rows))] = rng.choice(near)
    elif rows and rng.random() < 0.5:
        at = rng.randrange(len(rows))
        rows[at:at + 1] = rng.choice(([], [fresh]))
    elif len(rows) < (20, 12, 3)[which - 1]:
        rows.insert(rng.randint(0, len(rows)), fresh)
    return (size, *lists)


def resized(rng, given):
    """The five things of a book with one verse more or less; spans that lie beyond are out."""
    size = max(1, min(30, given[0] + rng.choice((-1, 1))))
    bars, dues = [[each for each in rows if each[2] <= size] for rows in given[3:]]
    return (size, given[1], given[2], bars, dues)


def frozen(given):
    """The five things as a tuple of tuples, fit as a key."""
    return (given[0], *(tuple(rows) for rows in given[1:]))


@functools.lru_cache(maxsize=None)
def sheets_of(key):
    """All whole sheets of a small book, the least first."""
    return standing_rows(key, key[0])


def sheets_on(given, row):
    """All whole sheets of a small book that begin with a row, the least first."""
    return [sheet for sheet in sheets_of(frozen(given)) if sheet[:len(row)] == row]


@functools.lru_cache(maxsize=200)
def counter(key):
    """What counts the sheets that go on from a stand of a book, by the steps of point 5; for None it tells 0."""
    found = {None: 0}

    def count(stand):
        if stand not in found:
            after = [step_said(key, stand, kind) for kind in range(len(key[1]))]
            found[stand] = 1 if stand[0] == key[0] else sum(map(count, after))
        return found[stand]

    return count


def is_name_said(text):
    return re.fullmatch("[a-z]{1,8}", text) is not None


class HouseSaid:
    """A house by the words of points 13 and 14, for small books: all sheets are gone through one by one.

    Deeds are tuples as in point 13, with a book's five things in the place of a
    rule book. Each deed is kept with a copy of all that was there ahead of it.
    """

    def __init__(self, given):
        self.first = self.given = given
        self.sheets = []
        self.deeds = []
        self.past = []
        self.later = []

    def named(self, name):
        return next((sheet for sheet in self.sheets if sheet["name"] == name), None)

    def row_refusals(self, row, place):
        """Those of a row that is as the house's rows are, but for the kind at a place."""
        if not 0 <= row[place - 1] < len(self.given[1]):
            return ["NoKind"]
        breach = first_breach(self.given, row)
        if breach is not None:
            return [("Broken", breach)]
        return [] if self.on(self.given, row)[0] else ["Stuck"]

    def on(self, given, row):
        """How many sheets go on, the least of them, and the kinds that come next in them."""
        found = sheets_on(given, row)
        return (len(found), found[0] if found else None, sorted({sheet[len(row)] for sheet in found if sheet != row}))

    def new_refusals(self, name):
        found = [] if is_name_said(name) else ["BadName"]
        found += ["Known"] if self.named(name) else []
        return found + (["Many"] if len(self.sheets) == 8 else [])

    def refusals(self, deed):
        """All refusals that are due, in the order in which they go first."""
        word, *things = deed
        if word == "begin":
            return self.new_refusals(*things) + ([] if self.on(self.given, [])[0] else ["Stuck"])
        if word == "change":
            return self.change_refusals(*things)
        sheet = self.named(things[0])
        if sheet is None:
            return ["NoName"]
        return getattr(self, word + "_refusals", self.no_refusals)(sheet, *things[1:])

    def no_refusals(self, sheet):
        return []

    def fork_refusals(self, sheet, new):
        return self.new_refusals(new)

    def offer_refusals(self, sheet, poet, kind):
        found = [] if is_name_said(poet) else ["BadName"]
        if len(sheet["row"]) == self.given[0]:
            return found + ["Whole"]
        found += ["SamePoet"] if sheet["poets"][-1:] == [poet] else []
        return found + self.row_refusals(sheet["row"] + [kind], len(sheet["row"]) + 1)

    def take_refusals(self, sheet):
        return ["Turned"] if len(sheet["row"]) == sheet["turned"] else []

    turn_refusals = take_refusals

    def amend_refusals(self, sheet, place, kind):
        if place not in range(1, len(sheet["row"]) + 1):
            return ["NoPlace"]
        row = sheet["row"][:place - 1] + [kind] + sheet["row"][place:]
        return (["Turned"] if place <= sheet["turned"] else []) + self.row_refusals(row, place)

    def change_refusals(self, given):
        lost = [sheet["name"] for sheet in self.sheets if not self.on(given, sheet["row"])[0]]
        return [("Stranded", (lost[0],))] if lost else []

    def do(self, deed):
        """Do a deed; tells the first refusal, or None."""
        found = self.refusals(deed)
        if found:
            return found[0]
        self.past.append(self.copied())
        self.later = []
        self.deeds = self.deeds + [deed]
        self.carry_out(*deed)
        return None

    def carry_out(self, word, name, *things):
        sheet = self.named(name)
        if word == "begin":
            self.sheets.append({"name": name, "poets": [], "row": [], "turned": 0})
        elif word == "offer":
            sheet["poets"].append(things[0])
            sheet["row"].append(things[1])
        elif word == "take":
            del sheet["poets"][-1], sheet["row"][-1]
        elif word == "amend":
            sheet["row"][things[0] - 1] = things[1]
        elif word == "turn":
            sheet["turned"] = len(sheet["row"])
        elif word == "fork":
            self.sheets.append(dict(copy.deepcopy(sheet), name=things[0]))
        elif word == "drop":
            self.sheets.remove(sheet)
        else:
            self.given = name

    def copied(self):
        return (self.given, copy.deepcopy(self.sheets), list(self.deeds))

    def move(self, ahead, behind):
        if not ahead:
            return "NothingLeft"
        behind.append(self.copied())
        self.given, self.sheets, self.deeds = ahead.pop()
        return None

    def back(self):
        return self.move(self.past, self.later)

    def again(self):
        return self.move(self.later, self.past)

    def seen(self):
        """All that a house tells."""
        sheets = []
        for sheet in self.sheets:
            verses = list(zip(sheet["poets"], sheet["row"]))
            sheets.append((sheet["name"], verses, sheet["turned"], *self.on(self.given, sheet["row"])))
        return (self.given, self.first, self.deeds, sheets)


class GreatHouseSaid(HouseSaid):
    """The same for books of any size: the sheets are counted by stands."""

    def on(self, given, row):
        count = counter(frozen(given))
        if len(row) > given[0] or not all(kind in range(len(given[1])) for kind in row) or first_breach(given, row):
            return (0, None, [])
        stand = stand_said(given, row)
        plan, fitting = list(row), self.fitting(given, count, stand)
        while len(plan) < given[0] and count(stand):
            kind = self.fitting(given, count, stand)[0]
            plan.append(kind)
            stand = step_said(given, stand, kind)
        return (count(stand_said(given, row)), plan, fitting)

    def fitting(self, given, count, stand):
        return [kind for kind in range(len(given[1])) if count(step_said(given, stand, kind))]


def house_seen(house):
    """All that a house tells, in the form in which HouseSaid tells it."""
    deeds = [("change", told(deed[1])) if deed[0] == "change" else deed for deed in house.deeds()]
    sheets = [
        (name, house.verses(name), house.turned(name), house.onwards(name), house.plan(name), house.fitting(name))
        for name in house.names()
    ]
    return (told(house.rules()), told(house.first()), deeds, sheets)


def house_does(house, deed):
    """Do a deed of the form that HouseSaid takes; tells the refusal as HouseSaid does, or None."""
    word, *things = deed
    if word == "change":
        things = [Rules(*things[0])]
    return refusal_of(lambda: getattr(house, word)(*things))


def refusal_of(call):
    """The name of the refusal, with its fields where it has some, or None; what is told must be None then."""
    try:
        answer = call()
    except VerseError as error:
        fields = {"Broken": ("place", "word"), "Stranded": ("name",), "BadRow": ("at",)}
        name = type(error).__name__
        if name in fields:
            return (name, tuple(getattr(error, field) for field in fields[name]))
        return name
    assert answer is None, answer
    return None


NAMES = ("a", "b", "moon", "seat", "abcdefgh", "z", "snow", "pine", "crane", "dew")
BAD_NAMES = ("", "abcdefghi", "A", "aB", "a1", "7", " ", "a b", "a ", "`", "{", "a;b", "a\n")


def drawn_book(rng, said):
    """A book near to the one that the house has; most have a whole sheet."""
    for each in range(6):
        given = rng.choice((nearby, nearby, resized))(rng, said.given)
        if said.on(given, [])[0] or rng.random() < 0.05:
            break
    return given


def drawn_kind(rng, given):
    """A kind of the book; now and then none."""
    many = len(given[1])
    return rng.choice((-1, many, 10 ** 6)) if rng.random() < 0.05 else rng.randrange(many)


def drawn_deed(rng, said):
    """A deed for a house as it is now: most are fit to be done, some are not."""
    names = [sheet["name"] for sheet in said.sheets]
    words = ("begin", "fork", "drop", "take", "turn", "change") + ("offer",) * 8 + ("amend",) * 4
    word = rng.choice(words if names or rng.random() < 0.2 else ("begin", "begin", "change"))
    name = rng.choice(BAD_NAMES + NAMES) if rng.random() < 0.04 or not names else rng.choice(names)
    new = rng.choice(BAD_NAMES if rng.random() < 0.06 else NAMES)
    sheet = said.named(name) or {"row": [], "turned": 0}
    if word == "begin":
        return (word, new)
    if word == "offer":
        return (word, name, new, drawn_kind(rng, said.given))
    if word == "amend":
        least = 0 if rng.random() < 0.2 else min(sheet["turned"] + 1, len(sheet["row"]))
        place = rng.randint(least, len(sheet["row"]) + rng.choice((0, 0, 0, 1)))
        return (word, name, place, drawn_kind(rng, said.given))
    if word == "fork":
        return (word, name, new)
    if word == "change":
        return (word, drawn_book(rng, said))
    return (word, name)


def with_a_sheet(maker):
    """What draws like the maker until a book has a whole sheet."""
    def drawn(rng):
        while True:
            given = maker(rng)
            if counter(frozen(given))(stand_said(given, [])):
                return given
    return drawn
