"""Tables of stands that show that no sheet goes on from a row."""

from moonseat.sheets import stand_of
from moonseat.stands import layers_from, steps_from


def blocked(rules, row):
    """A closed table for the row, or None where a sheet goes on."""
    layers = layers_from(rules, stand_of(rules, row))
    # So many layers that the last one's stands are at the size: whole sheets.
    if len(row) + len(layers) > rules.size:
        return None
    return [list(layer) for layer in layers]


def is_closed(rules, stand, place, behind):
    """Whether a stand has this place, short of the size, and its steps are among those behind."""
    if stand[0] != place or place >= rules.size:
        return False
    return all([after in behind for kind, after in steps_from(rules, stand)])


def table_holds(rules, row, table):
    """Whether the table is closed for the row."""
    first = stand_of(rules, row)
    if not table or first not in table[0]:
        return False
    for at, stands in enumerate(table):
        # Behind the last list there is none: no step may lead on from it.
        behind = {stand: True for following in table[at + 1:at + 2] for stand in following}
        if not all([is_closed(rules, stand, len(row) + at, behind) for stand in stands]):
            return False
    return True
