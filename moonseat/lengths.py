"""Lengths: for which counts of verses a free rule book has whole sheets."""

from moonseat.errors import NotFree
from moonseat.stands import empty_stand, is_early, is_long, is_short, is_shunned, stand_with


def goes_on(rules, stand, kind):
    """Whether a verse breaks no rule where no end is near: so none is cut, and in a free book barred or due."""
    if is_long(rules, stand, kind) or is_short(rules, stand, kind):
        return False
    return not is_early(stand, kind) and not is_shunned(rules, stand, kind)


def endless_steps(rules, stand):
    """The stands behind one verse more, each with the place 0, so that stands come again."""
    kinds = [kind for kind in range(rules.many()) if goes_on(rules, stand, kind)]
    return [(0,) + stand_with(rules, stand, kind)[1:] for kind in kinds]


def stands_behind(rules, stands, known):
    """All stands one verse behind these, in their order; known keeps the steps found so far."""
    found = set()
    for stand in stands:
        if stand not in known:
            known[stand] = endless_steps(rules, stand)
        for after in known[stand]:
            found.add(after)
    return tuple(sorted(found))


def can_end(rules, stands):
    """Whether a sheet may end with one of the stands: its last run isn't cut."""
    return any([stand[2] >= rules.kind_rows[stand[1]][0] for stand in stands])


def answers_until_again(rules):
    """The answers for 1, 2, .. until the same stands come again, and the count of those ahead of the first time."""
    known = {}
    seen = {}
    answers = []
    stands = stands_behind(rules, (empty_stand(rules),), known)
    while stands not in seen:
        seen[stands] = len(answers)
        answers.append(can_end(rules, stands))
        stands = stands_behind(rules, stands, known)
    return (answers, seen[stands])


def shortest_round(answers):
    """The shortest list that makes these answers, again and again."""
    for many in range(1, len(answers)):
        times = len(answers) // many
        if answers[:many] * times == answers:
            return answers[:many]
    return answers


def lengths(rules):
    """For a free book the beginning and the round of the answers for 1, 2, .. verses."""
    if rules.bar_rows or rules.due_rows:
        raise NotFree("the rule book has bars or dues")
    answers, count = answers_until_again(rules)
    beginning = answers[:count]
    again = shortest_round(answers[count:])
    # An answer that the round ends with as well is the round's own, begun one earlier.
    while beginning and beginning[-1] == again[-1]:
        again = [beginning.pop()] + again[:-1]
    return (beginning, again)
