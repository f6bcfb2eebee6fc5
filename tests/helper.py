"""What the tests share: books made up from seeds, and the document's points said anew.

What is reckoned here looks at whole rows and never asks the package, so that
the two can disagree.
"""

import itertools
import random

from moonseat.rules import Rules

WORDS = ("barred", "long", "short", "early", "shun", "due", "cut")


def book(size, kinds, shuns=(), bars=(), dues=()):
    return Rules(size, list(kinds), list(shuns), list(bars), list(dues))


def kind_triple(rng):
    least = rng.randint(1, 4)
    return (least, rng.randint(least, 4), rng.randint(0, 4))


def span(rng, many, size):
    first = rng.randint(1, size)
    return (rng.randrange(many), first, rng.randint(first, size))


def parts(rng, size, many, shuns, bars, dues):
    """The five things of a book with these counts."""
    return (
        size,
        [kind_triple(rng) for each in range(many)],
        [(rng.randrange(many), rng.randrange(many), rng.randint(1, 2)) for each in range(shuns)],
        [span(rng, many, size) for each in range(bars)],
        [span(rng, many, size) for each in range(dues)],
    )


def loose_parts(rng, most_size=9):
    """The five things of a book with few rules, so that many rows of it stand."""
    size, many = rng.randint(1, most_size), rng.randint(1, 4)
    shuns, bars, dues = rng.choice((0, 0, 1, 2, 3)), rng.choice((0, 0, 1, 2)), rng.randint(0, 3)
    size, kinds, shuns, bars, dues = parts(rng, size, many, shuns, bars, dues)
    kinds = [(min(least, 2), most, rest) if rng.random() < 0.5 else (1, most, rest) for least, most, rest in kinds]
    return size, kinds, shuns, bars, dues


def wide_parts(rng):
    """The five things of a book from anywhere in the range of point 2."""
    counts = [rng.randint(low, high) for low, high in ((1, 30), (1, 4), (0, 20), (0, 12), (0, 3))]
    return parts(rng, *counts)


def small_parts(rng):
    """The five things of a book of size 1 to 6 with few rules."""
    return loose_parts(rng, 6)


def roomy_parts(rng):
    """The five things of a book of size 20 to 30 with very many sheets."""
    size, many = rng.randint(20, 30), rng.randint(2, 4)
    size, kinds, shuns, bars, dues = parts(rng, size, many, rng.randint(0, 2), rng.randint(0, 2), rng.randint(0, 3))
    return size, [(rng.randint(1, 2), rng.randint(2, 4), rng.randint(0, 2)) for kind in kinds], shuns, bars, dues


def planted_row(rng, kinds, length):
    """A row of about this length that ends with a run that isn't cut, under these kinds alone."""
    row = []
    while True:
        others = [kind for kind in range(len(kinds)) if not row or row[-1] != kind]
        fitting = [kind for kind in others if not words_due((99, kinds, [], [], []), row + [kind], len(row) + 1)]
        if not fitting:
            return row
        kind = rng.choice(fitting)
        run = rng.randint(*kinds[kind][:2])
        if len(row) + run > length:
            return row or [kind] * run
        row += [kind] * run


def planted_parts(rng):
    """The five things of a book to the size of 30 with many rules, and yet with a whole sheet."""
    kinds = [kind_triple(rng) for each in range(rng.randint(1, 4))]
    row = planted_row(rng, kinds, rng.randint(1, 30))
    size = len(row)
    wanted = (rng.randint(0, 20), rng.randint(0, 12), rng.randint(0, 3))
    found = ([], [], [])
    for each in range(400):
        made = parts(rng, size, len(kinds), 1, 1, 1)
        for at, rows in enumerate(found):
            lone = [[], [], []]
            lone[at] = made[2 + at]
            if len(rows) < wanted[at] and first_breach((size, kinds, *lone), row) is None:
                rows += made[2 + at]
    return (size, kinds, *found)


def random_books(seed, count, maker=loose_parts):
    rng = random.Random(seed)
    for each in range(count):
        given = maker(rng)
        yield rng, given, Rules(*given)


def random_row(rng, many, length):
    """A row that stays with a kind often, so that runs grow."""
    row = []
    for each in range(length):
        row.append(row[-1] if row and rng.random() < 0.5 else rng.randrange(many))
    return row


def all_rows(many, length):
    return [list(row) for row in itertools.product(range(many), repeat=length)]


def run_length(row, place):
    """How many verses of the run at this place stand up to it."""
    count = 0
    while count < place and row[place - count - 1] == row[place - 1]:
        count += 1
    return count


def words_due(given, row, place):
    """All the words of point 3 that are due for the verse at this place, in their order."""
    size, kinds, shuns, bars, dues = given
    kind = row[place - 1]
    ahead = row[: place - 1]
    least, most, rest = kinds[kind]
    begins = not ahead or ahead[-1] != kind
    due = set()
    if any(barred == kind and place in range(first, last + 1) for barred, first, last in bars):
        due.add("barred")
    if run_length(row, place) - 1 >= most:
        due.add("long")
    if ahead and begins and run_length(row, place - 1) < kinds[ahead[-1]][0]:
        due.add("short")
    if begins and kind in ahead:
        latest = max(at for at in range(1, place) if row[at - 1] == kind)
        if place - latest - 1 < rest:
            due.add("early")
    if any(other == kind and place - far >= 1 and row[place - far - 1] == one for one, other, far in shuns):
        due.add("shun")
    if any(last == place and meant not in row[first - 1 : last] for meant, first, last in dues):
        due.add("due")
    if place == size and run_length(row, place) < least:
        due.add("cut")
    return [word for word in WORDS if word in due]


def first_breach(given, row):
    """What judged is to tell of a row of kinds that isn't too long."""
    for place in range(1, len(row) + 1):
        due = words_due(given, row[:place], place)
        if due:
            return (place, due[0])
    return None


def standing_rows(given, length):
    """All rows of this length that stand."""
    rows = [[]]
    for each in range(length):
        longer = [row + [kind] for row in rows for kind in range(len(given[1]))]
        rows = [row for row in longer if not words_due(given, row, len(row))]
    return rows


def stand_said(given, row):
    """The stand of a row that stands, by the words of point 4."""
    size, kinds, shuns, bars, dues = given
    waits = []
    for kind, (least, most, rest) in enumerate(kinds):
        if kind not in row or row[-1] == kind:
            waits.append(0)
        else:
            waits.append(max(rest - row[::-1].index(kind), 0))
    return (
        len(row),
        row[-1] if row else -1,
        run_length(row, len(row)),
        row[-2] if len(row) > 1 else -1,
        tuple(waits),
        tuple(kind in row[first - 1 : last] for kind, first, last in dues),
    )


def step_breaks(given, stand, kind):
    """Whether a verse breaks a rule behind a stand, by the words of point 5."""
    size, kinds, shuns, bars, dues = given
    place, last, length, before, waits, met = stand
    here = place + 1
    least, most, rest = kinds[kind]
    run = length + 1 if kind == last else 1
    return any((
        any(k == kind and a <= here <= b for k, a, b in bars),
        kind == last and length >= most,
        kind != last and last != -1 and length < kinds[last][0],
        kind != last and waits[kind] != 0,
        (last, kind, 1) in shuns,
        (before, kind, 2) in shuns,
        any(b == here and not m and not (k == kind and a <= here) for (k, a, b), m in zip(dues, met)),
        here == size and run < least,
    ))


def step_said(given, stand, kind):
    """The step from a stand, by the words of point 5."""
    size, kinds, shuns, bars, dues = given
    place, last, length, before, waits, met = stand
    if place == size or step_breaks(given, stand, kind):
        return None
    here = place + 1
    now = []
    for each in range(len(kinds)):
        if each == kind:
            now.append(0)
        elif each == last:
            now.append(max(kinds[each][2] - 1, 0))
        else:
            now.append(max(waits[each] - 1, 0))
    reached = tuple(m or (k == kind and a <= here <= b) for (k, a, b), m in zip(dues, met))
    return (here, kind, length + 1 if kind == last else 1, last, tuple(now), reached)


def odd_stand(rng, given, place):
    """A stand of the form of point 4 at this place, whether or not some row has it."""
    size, kinds, shuns, bars, dues = given
    many = len(kinds)
    waits = tuple(rng.choice((0, 0, 1, 2, 3, 4)) for kind in kinds)
    met = tuple(rng.random() < 0.5 for due in dues)
    return (place, rng.randint(-1, many - 1), rng.randint(0, 4), rng.randint(-1, many - 1), waits, met)


def other_field(rng, given, stand):
    """The stand with one field changed, still of the form of point 4."""
    fields = list(stand)
    while tuple(fields) == stand:
        at = rng.randrange(6)
        fields[at] = odd_stand(rng, given, rng.randint(0, given[0]))[at]
    return tuple(fields)


def closed_said(given, row, table):
    """Whether a table is closed for a row that stands, by the words of point 7."""
    size, many = given[0], len(given[1])
    if len(table) == 0 or stand_said(given, row) not in table[0]:
        return False
    for i in range(len(table)):
        for stand in table[i]:
            if stand[0] != len(row) + i or stand[0] >= size:
                return False
            for kind in range(many):
                after = step_said(given, stand, kind)
                if after is not None and (i + 1 == len(table) or after not in table[i + 1]):
                    return False
    return True


def cost_said(row, costs, sheet):
    """What a mending costs, by the words of point 8."""
    return sum(cost for verse, cost, other in zip(row, costs, sheet) if verse != other)


def shown_said(given, row, costs, prices, cost):
    """Whether prices show a number, by the words of point 9."""
    size, many = given[0], len(given[1])
    if len(prices) == 0:
        return False
    if not any(stand == stand_said(given, []) and number >= cost for stand, number in prices[0]):
        return False
    for i, pairs in enumerate(prices):
        stands = [stand for stand, number in pairs]
        following = prices[i + 1] if i + 1 < len(prices) else []
        for stand, number in pairs:
            if stand[0] != i or stands.count(stand) != 1 or (i == size and number > 0):
                return False
            for kind in range(many):
                after = step_said(given, stand, kind)
                if after is None:
                    continue
                room = [other for found, other in following if found == after]
                if not room or number > room[0] + (0 if row[i] == kind else costs[i]):
                    return False
    return True
