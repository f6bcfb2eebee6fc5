"""What goes on from a row: how many sheets, which ones, and in which order."""

from moonseat.errors import NoNumber, NoSheet
from moonseat.sheets import is_whole, stand_of
from moonseat.stands import layers_from, stand_with, steps_from


def counts_from(rules, stand):
    """How many sheets go on, for this stand and for each to which steps lead from it."""
    counts = {}
    # From the size backward: a stand's count is the sum over the stands behind it.
    for layer in reversed(layers_from(rules, stand)):
        for each, steps in layer.items():
            if each[0] == rules.size:
                counts[each] = 1
            else:
                counts[each] = sum([counts[after] for kind, after in steps])
    return counts


def first_verse(rules, stand, counts, number):
    """The verse with which the sheet of this number goes on: its kind, the step, and the number from there."""
    left = number
    for kind, after in steps_from(rules, stand):
        if left < counts[after]:
            return (kind, after, left)
        left -= counts[after]
    return None


def sheet_at(rules, row, counts, number):
    """The sheet of this number, which is one of those that go on from the row."""
    sheet = list(row)
    stand = stand_of(rules, row)
    left = number
    while len(sheet) < rules.size:
        kind, stand, left = first_verse(rules, stand, counts, left)
        sheet.append(kind)
    return sheet


def can_be_ended(rules, stand, known):
    """Whether some sheet goes on from the stand; known keeps what was found of this rule book's stands so far.

    Unlike a count this is found with the first sheet, so that most stands are never looked at.
    """
    if stand[0] == rules.size:
        return True
    if stand not in known:
        steps = steps_from(rules, stand)
        known[stand] = any_can_be_ended(rules, [after for kind, after in steps], known)
    return known[stand]


def any_can_be_ended(rules, stands, known):
    """Whether some sheet goes on from one of the stands."""
    for stand in stands:
        if can_be_ended(rules, stand, known):
            return True
    return False


def ways(rules, row):
    """The count of the sheets that go on from the row."""
    stand = stand_of(rules, row)
    return counts_from(rules, stand)[stand]


def kinds_on(rules, row):
    """The kinds, rising, behind which a sheet still goes on."""
    stand = stand_of(rules, row)
    counts = counts_from(rules, stand)
    return [kind for kind, after in steps_from(rules, stand) if counts[after] > 0]


def nth(rules, row, number):
    """The sheet of this number among those that go on, the least being number 0."""
    stand = stand_of(rules, row)
    counts = counts_from(rules, stand)
    if not 0 <= number < counts[stand]:
        raise NoNumber("no sheet that goes on has this number")
    return sheet_at(rules, row, counts, number)


def number_of(rules, row, sheet):
    """The number of a sheet among those that go on."""
    stand = stand_of(rules, row)
    if not is_whole(rules, sheet) or sheet[:len(row)] != row:
        raise NoSheet("the list is no sheet that goes on from the row")
    counts = counts_from(rules, stand)
    number = 0
    for kind in sheet[len(row):]:
        # Each sheet that goes on by a lesser kind here has a lesser number.
        number += sum([counts[after] for lesser, after in steps_from(rules, stand) if lesser < kind])
        stand = stand_with(rules, stand, kind)
    return number


def onward(rules, row):
    """The least sheet that goes on, or None."""
    stand = stand_of(rules, row)
    counts = counts_from(rules, stand)
    if counts[stand] == 0:
        return None
    return sheet_at(rules, row, counts, 0)
