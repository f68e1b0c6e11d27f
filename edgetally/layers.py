"""Layers: nets whose things are dealt apart, looked at together in one cell."""

from edgetally.bounds import MOST
from edgetally.counts import lowest, power
from edgetally.errors import BadLayers, BadNumber, NoTable
from edgetally.shares import cell_spread

MOST_LAYERS = 4
MOST_ODDS = 1000


def check_layers(nets):
    if not 1 <= len(nets) <= MOST_LAYERS:
        raise BadLayers(f"there are 1 to {MOST_LAYERS} layers, not {len(nets)}")
    if sum([sum(net.rowsums()) for net in nets]) > MOST:
        raise BadLayers(f"layers have at most {MOST} things together")


def layer_spreads(nets, place):
    """Tells, layer by layer, (count, dealings) of all counts that come in the cell."""
    check_layers(nets)
    return [cell_spread(net, place) for net in nets]


def gathered_spreads(spreads):
    """Tells (sum, dealings) of all sums of one count from each layer, rising."""
    gathered = {0: 1}
    for counted in spreads:
        behind = {}
        for many, dealings in gathered.items():
            for count, more in counted:
                behind[many + count] = behind.get(many + count, 0) + dealings * more
        gathered = behind
    return sorted(gathered.items())


def gathering(nets, *, place=(0, 0)):
    """Tells (sum, dealings) of all sums of the layers' counts in the cell, by rising sum."""
    return gathered_spreads(layer_spreads(nets, place))


def check_odds(odds):
    for number in odds:
        if not 1 <= number <= MOST_ODDS:
            raise BadNumber(f"odds have numbers from 1 to {MOST_ODDS}, not {number}")


def odds_share(nets, seen, *, odds=(1, 1), place=(0, 0), up=True):
    """Tells, under the odds, the share of the sums as great as the seen one or greater (smaller)."""
    gathered = gathering(nets, place=place)
    check_odds(odds)
    top, under = odds
    greatest = gathered[-1][0]
    weighed = [
        (many, dealings * power(top, many) * power(under, greatest - many))
        for many, dealings in gathered
    ]
    taken = [weight for many, weight in weighed if (many >= seen if up else many <= seen)]
    return lowest(sum(taken), sum([weight for many, weight in weighed]))


def parts_weight(spreads, parts):
    """Tells the product of the layers' dealings with these counts."""
    if len(parts) != len(spreads):
        raise BadNumber(f"there are {len(parts)} counts for {len(spreads)} layers")
    weight = 1
    for part, counted in zip(parts, spreads):
        found = [dealings for count, dealings in counted if count == part]
        if len(found) == 0:
            raise NoTable(f"no table of its layer has {part} in the cell")
        weight *= found[0]
    return weight


def weights_of_sum(spreads, many):
    """Tells the products of dealings of all lists of counts, one a layer, with that sum."""
    begun = [(0, 1)]
    for counted in spreads:
        begun = [
            (gathered + count, weight * dealings)
            for gathered, weight in begun
            for count, dealings in counted
            if gathered + count <= many
        ]
    return [weight for gathered, weight in begun if gathered == many]


def parts_share(nets, parts, *, place=(0, 0)):
    """Tells the share, among all lists of counts with the same sum, of those that come no more often."""
    spreads = layer_spreads(nets, place)
    told = parts_weight(spreads, parts)
    weights = weights_of_sum(spreads, sum(parts))
    return lowest(sum([weight for weight in weights if weight <= told]), sum(weights))
