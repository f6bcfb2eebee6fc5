"""Rows and sheets: which stand, and how a stand goes on."""

from moonseat.errors import Broken, NoKind, TooLong
from moonseat.stands import breach, empty_stand, stand_with, stepped


def is_kind(rules, number):
    """Whether the number is a kind of the rule book."""
    return 0 <= number < rules.many()


def has_kinds_alone(rules, row):
    """Whether each number of the row is a kind."""
    return all([is_kind(rules, number) for number in row])


def check_row(rules, row):
    """Refuse what is no row of the rule book, standing or not."""
    if not has_kinds_alone(rules, row):
        raise NoKind("the row has a number that is no kind")
    if len(row) > rules.size:
        raise TooLong("the row has more verses than the size")


def walked(rules, row):
    """The stand of the longest beginning that stands, and the word of the verse behind it.

    The word is None where the whole row stands.
    """
    stand = empty_stand(rules)
    for kind in row:
        word = breach(rules, stand, kind)
        if word is not None:
            return (stand, word)
        stand = stand_with(rules, stand, kind)
    return (stand, None)


def judged(rules, row):
    """None where the row stands, else its first wrong verse's place and word."""
    check_row(rules, row)
    stand, word = walked(rules, row)
    if word is None:
        return None
    return (stand[0] + 1, word)


def is_whole(rules, row):
    """Whether the list is a whole sheet."""
    if len(row) != rules.size or not has_kinds_alone(rules, row):
        return False
    return walked(rules, row)[1] is None


def stand_of(rules, row):
    """The stand of a row that stands."""
    check_row(rules, row)
    stand, word = walked(rules, row)
    if word is not None:
        raise Broken(stand[0] + 1, word)
    return stand


def step(rules, stand, kind):
    """The stand behind one verse more, or None where none can be."""
    if not is_kind(rules, kind):
        raise NoKind("the verse's number is no kind")
    return stepped(rules, stand, kind)
