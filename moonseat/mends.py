"""Mends: the whole sheets that differ least from a full row, and prices that show it."""

from moonseat.errors import BadCosts, NotFull
from moonseat.sheets import check_row
from moonseat.stands import empty_stand, layers_from, steps_from

LEAST_COST = 1
MOST_COST = 9


def check_full(rules, row, costs):
    """Refuse what is no full row, standing or not, and what are no costs of it."""
    check_row(rules, row)
    if len(row) < rules.size:
        raise NotFull("the row has fewer verses than the size")
    if len(costs) != rules.size:
        raise BadCosts("there isn't one cost for each place")
    if not all([LEAST_COST <= cost <= MOST_COST for cost in costs]):
        raise BadCosts("a cost lies beyond its bounds")


def cost_behind(row, costs, stand, kind):
    """What a verse of this kind behind the stand costs."""
    at = stand[0]
    if row[at] == kind:
        return 0
    return costs[at]


def numbers_of(rules, row, costs, layers):
    """For each stand the least cost of the verses that are still to come.

    A stand from which no whole sheet goes on gets more than any mending costs.
    """
    dead = sum(costs) + 1
    numbers = {}
    # From the size backward: what a stand costs hangs on the stands behind it.
    for layer in reversed(layers):
        for stand, steps in layer.items():
            if stand[0] == rules.size:
                numbers[stand] = 0
            else:
                sums = [numbers[after] + cost_behind(row, costs, stand, kind) for kind, after in steps]
                numbers[stand] = min(sums, default=dead)
    return numbers


def cheapest_step(rules, row, costs, numbers, stand):
    """The kind and the step by which the least cost goes on from the stand."""
    for kind, after in steps_from(rules, stand):
        if numbers[after] + cost_behind(row, costs, stand, kind) == numbers[stand]:
            return (kind, after)
    return None


def cheapest_sheet(rules, row, costs, numbers):
    """A mending of the least cost, where there is one."""
    sheet = []
    stand = empty_stand(rules)
    while len(sheet) < rules.size:
        kind, stand = cheapest_step(rules, row, costs, numbers, stand)
        sheet.append(kind)
    return sheet


def mended(rules, row, costs):
    """The least cost, a mending that costs so much and prices that show it, or None."""
    check_full(rules, row, costs)
    first = empty_stand(rules)
    layers = layers_from(rules, first)
    # So few layers that none has stands at the size: no whole sheet.
    if len(layers) <= rules.size:
        return None
    numbers = numbers_of(rules, row, costs, layers)
    sheet = cheapest_sheet(rules, row, costs, numbers)
    prices = [[(stand, numbers[stand]) for stand in layer] for layer in layers]
    return (numbers[first], sheet, prices)


def each_once(pairs, place):
    """Whether each stand of the pairs has this place and stands there once."""
    stands = {stand for stand, number in pairs}
    return len(stands) == len(pairs) and all([stand[0] == place for stand, number in pairs])


def pair_holds(rules, row, costs, pair, behind):
    """Whether the pair's number is no greater than any step from its stand allows."""
    stand, number = pair
    if stand[0] == rules.size and number > 0:
        return False
    for kind, after in steps_from(rules, stand):
        if after not in behind or number > behind[after] + cost_behind(row, costs, stand, kind):
            return False
    return True


def prices_hold(rules, row, costs, prices, cost):
    """Whether the prices show this number."""
    check_full(rules, row, costs)
    first = empty_stand(rules)
    if not prices or not any([stand == first and number >= cost for stand, number in prices[0]]):
        return False
    for at, pairs in enumerate(prices):
        if not each_once(pairs, at):
            return False
        behind = {stand: number for following in prices[at + 1:at + 2] for stand, number in following}
        if not all([pair_holds(rules, row, costs, pair, behind) for pair in pairs]):
            return False
    return True
