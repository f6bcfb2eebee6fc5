"""A host and a spoiler go on writing a sheet: who gets their way, and by which verse."""

from moonseat.errors import BadBeat
from moonseat.sheets import stand_of
from moonseat.stands import layers_from, steps_from

LEAST_BEAT = 2
MOST_BEAT = 5


def check_beat(beat):
    """Refuse what is no beat."""
    if not LEAST_BEAT <= beat <= MOST_BEAT:
        raise BadBeat("a beat is 2 to 5")


def spoiler_is_next(beat, stand):
    """Whether the verse behind the stand is the spoiler's."""
    return (stand[0] + 1) % beat == 0


def hosts_from(rules, beat, stand):
    """Whether the verdict is the host's, for this stand and for each to which steps lead from it."""
    hosts = {}
    # From the size backward: what a verse brings about hangs on the stand behind it.
    for layer in reversed(layers_from(rules, stand)):
        for each, steps in layer.items():
            ends = [hosts[after] for kind, after in steps]
            if each[0] == rules.size:
                hosts[each] = True
            elif spoiler_is_next(beat, each):
                # A spoiler without a verse has it stuck all the same.
                hosts[each] = len(ends) > 0 and all(ends)
            else:
                hosts[each] = any(ends)
    return hosts


def verdict(rules, beat, row):
    """Who gets their way from the row on, whatever the other one writes."""
    check_beat(beat)
    stand = stand_of(rules, row)
    if hosts_from(rules, beat, stand)[stand]:
        return "host"
    return "spoiler"


def advice(rules, beat, row):
    """The least kind behind which the one whose verse comes next still gets their way, or None."""
    check_beat(beat)
    stand = stand_of(rules, row)
    hosts = hosts_from(rules, beat, stand)
    wanted = not spoiler_is_next(beat, stand)
    for kind, after in steps_from(rules, stand):
        if hosts[after] == wanted:
            return kind
    return None
