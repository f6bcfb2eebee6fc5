"""Likeness: whether two rule books have the same whole sheets, and if not, the least that parts them.

What goes on from a stand gets a number, one for both books: the same verses go
on from two stands just where their numbers are the same. So the stands of the
one book needn't be paired with those of the other.
"""

from moonseat.errors import Unlike
from moonseat.stands import empty_stand, layers_from

NOTHING = 0
NO_VERSE_MORE = 1


def number_for(behind, known):
    """The number of what goes on by these numbers, which are those behind each kind."""
    if max(behind) == NOTHING:
        return NOTHING
    return known.setdefault(behind, NO_VERSE_MORE + 1 + len(known))


def numbers_behind(rules, steps, numbers):
    """For each kind the number of what goes on behind it."""
    found = {kind: numbers[after] for kind, after in steps}
    return tuple([found.get(kind, NOTHING) for kind in range(rules.many())])


def number_of_all(rules, known):
    """The number of what goes on from the empty row; known keeps the numbers given so far."""
    first = empty_stand(rules)
    numbers = {}
    # From the size backward: a stand's number hangs on those behind it.
    for layer in reversed(layers_from(rules, first)):
        for stand, steps in layer.items():
            if stand[0] == rules.size:
                numbers[stand] = NO_VERSE_MORE
            else:
                numbers[stand] = number_for(numbers_behind(rules, steps, numbers), known)
    return numbers[first]


def least_end(behind, number):
    """The least verses that go on, where some do."""
    verses = []
    while number != NO_VERSE_MORE:
        kind = min([at for at, after in enumerate(behind[number]) if after != NOTHING])
        verses.append(kind)
        number = behind[number][kind]
    return verses


def least_parting(behind, one, two):
    """The least sheet that goes on by just one of two numbers, which differ, and by which one, 1 or 2."""
    verses = []
    while one != NOTHING and two != NOTHING:
        pairs = list(zip(behind[one], behind[two]))
        kind = min([at for at, (left, right) in enumerate(pairs) if left != right])
        verses.append(kind)
        one, two = pairs[kind]
    if two == NOTHING:
        return (verses + least_end(behind, one), 1)
    return (verses + least_end(behind, two), 2)


def parted(one, two):
    """None where both books have the same whole sheets, else the least one that just one of them has, and which."""
    if one.size != two.size or one.many() != two.many():
        raise Unlike("the books differ in size or in the count of kinds")
    known = {}
    left = number_of_all(one, known)
    right = number_of_all(two, known)
    if left == right:
        return None
    # Nothing and no verse more have nothing behind them; the others stand in the order of their numbers.
    behind = [(), ()] + list(known)
    return least_parting(behind, left, right)
