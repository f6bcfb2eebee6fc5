"""Stands: that of a row on which all that may come behind it hangs.

A stand is a tuple (place, kind, length, before, waits, met). Nothing here asks
whether some row has the stand: all goes by its fields alone.
"""


def empty_stand(rules):
    """The stand of the row without verses."""
    waits = (0,) * rules.many()
    met = (False,) * len(rules.due_rows)
    return (0, -1, 0, -1, waits, met)


def run_with(stand, kind):
    """How many verses the run of a verse of this kind behind the stand has."""
    if stand[1] == kind:
        return stand[2] + 1
    return 1


def waits_with(rules, stand, kind):
    """The waits behind a verse of this kind."""
    last = stand[1]
    # What comes behind the verse has the verse itself between: one less to wait.
    waits = [max(wait - 1, 0) for wait in stand[4]]
    if last != -1:
        waits[last] = max(rules.kind_rows[last][2] - 1, 0)
    waits[kind] = 0
    return tuple(waits)


def met_with(rules, stand, kind):
    """Which dues are met with a verse of this kind."""
    place = stand[0] + 1
    met = []
    for due, is_met in zip(rules.due_rows, stand[5]):
        meant, first, last = due
        met.append(is_met or (meant == kind and first <= place <= last))
    return tuple(met)


def stand_with(rules, stand, kind):
    """The stand behind a verse of this kind, which breaks no rule."""
    length = run_with(stand, kind)
    waits = waits_with(rules, stand, kind)
    met = met_with(rules, stand, kind)
    return (stand[0] + 1, kind, length, stand[1], waits, met)


def is_barred(rules, stand, kind):
    """Whether a bar of this kind lies over the verse's place."""
    place = stand[0] + 1
    for barred, first, last in rules.bar_rows:
        if barred == kind and first <= place <= last:
            return True
    return False


def is_long(rules, stand, kind):
    """Whether the run ahead has no room for the verse."""
    return stand[1] == kind and stand[2] >= rules.kind_rows[kind][1]


def is_short(rules, stand, kind):
    """Whether the verse would end the run ahead too soon."""
    last = stand[1]
    if last == kind or last == -1:
        return False
    return stand[2] < rules.kind_rows[last][0]


def is_early(stand, kind):
    """Whether the verse begins a run while its kind still rests."""
    return stand[1] != kind and stand[4][kind] != 0


def is_shunned(rules, stand, kind):
    """Whether one of the two verses ahead shuns the verse."""
    for one, other, far in rules.shun_rows:
        ahead = stand[1] if far == 1 else stand[3]
        if other == kind and ahead == one:
            return True
    return False


def misses_due(rules, stand, kind):
    """Whether a due ends with the verse and still isn't met."""
    place = stand[0] + 1
    for due, is_met in zip(rules.due_rows, met_with(rules, stand, kind)):
        if due[2] == place and not is_met:
            return True
    return False


def is_cut(rules, stand, kind):
    """Whether the sheet ends with the verse, ahead of its run's least."""
    if stand[0] + 1 != rules.size:
        return False
    return run_with(stand, kind) < rules.kind_rows[kind][0]


def breach(rules, stand, kind):
    """The first word by which a verse of this kind breaks a rule, or None."""
    if is_barred(rules, stand, kind):
        return "barred"
    if is_long(rules, stand, kind):
        return "long"
    if is_short(rules, stand, kind):
        return "short"
    if is_early(stand, kind):
        return "early"
    if is_shunned(rules, stand, kind):
        return "shun"
    if misses_due(rules, stand, kind):
        return "due"
    if is_cut(rules, stand, kind):
        return "cut"
    return None


def stepped(rules, stand, kind):
    """The stand behind one verse more of this kind, or None where none can be."""
    if stand[0] >= rules.size or breach(rules, stand, kind) is not None:
        return None
    return stand_with(rules, stand, kind)


def steps_from(rules, stand):
    """The pairs of a kind and the step by it, for each kind by which there is one, rising."""
    steps = []
    for kind in range(rules.many()):
        after = stepped(rules, stand, kind)
        if after is not None:
            steps.append((kind, after))
    return steps


def layers_from(rules, stand):
    """All stands to which steps lead from this one: a list of dicts, one for each place from its own on.

    Each dict has the place's stands, and for each of them its steps. The last one
    has stands at the size just where some whole sheet goes on.
    """
    layers = []
    ahead = [stand]
    while ahead:
        layer = {}
        behind = {}
        for each in ahead:
            layer[each] = steps_from(rules, each)
            for kind, after in layer[each]:
                behind[after] = True
        layers.append(layer)
        ahead = list(behind)
    return layers
