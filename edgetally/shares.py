"""Shares: how strange a seen value is among all tables of a net, by exact fractions."""

from edgetally.counts import held, lowest, ways
from edgetally.ends import check_same_sums
from edgetally.errors import BadNumber, BadRule
from edgetally.looks import Look
from edgetally.measures import Measure
from edgetally.net import rests_behind

SIDES = ("beyond", "same", "under", "mid")
RULES = ("rare", "double", "mean")
LEVEL = (1, 20)


def gathered_behind(net, measure, level, here):
    """Tells, for each node of the next level, the dealings by what is gathered ahead of it."""
    behind = {}
    for rests, found in here.items():
        for counts in net.steps(level, rests):
            part = measure.part(level, counts)
            many = ways(counts)
            found_behind = behind.setdefault(rests_behind(rests, counts), {})
            for gathered, dealings in found.items():
                value = measure.together(gathered, part)
                found_behind[value] = found_behind.get(value, 0) + dealings * many
    return behind


def spread(net, measure):
    """Tells (value, dealings) of all values that some table of the net has, by rising value."""
    check_same_sums(net, measure)
    here = {tuple(net.rowsums()): {measure.begun(): 1}}
    for level in range(len(net.columnsums())):
        here = gathered_behind(net, measure, level, here)
    # Behind the last column nothing is left to lay, so all ways end in one node.
    return sorted(here[tuple([0 for row in net.rowsums()])].items())


def cell_spread(net, place):
    """Tells (count, dealings) of all counts that come in one cell, rising."""
    return spread(net, Measure("most", net.rowsums(), net.columnsums(), place=place))


def dealings_of(found):
    return sum([dealings for value, dealings in found])


def share_of(net, found):
    """Tells the part that these values have of all dealings."""
    return lowest(dealings_of(found), net.dealings())


def share(net, measure, seen, *, side="beyond"):
    """Tells the share of the tables on one side of a seen value."""
    check_same_sums(net, measure)
    if side not in SIDES:
        raise BadRule(f"there is no side {side}")
    found = spread(net, measure)
    beyond = [(value, dealings) for value, dealings in found if measure.beyond(value, seen)]
    same = [(value, dealings) for value, dealings in found if value == seen]
    if side == "beyond":
        return share_of(net, beyond)
    if side == "same":
        return share_of(net, same)
    if side == "under":
        return share_of(net, [(value, dealings) for value, dealings in found if measure.beyond(seen, value)])
    return lowest(2 * dealings_of(beyond) - dealings_of(same), 2 * net.dealings())


def weighing(net, measure, seen):
    """Tells the paper of a share: (level, rests, gathered, dealings, verdict) row by row."""
    look = Look(net, measure, seen)
    while not look.ended():
        look.step()
    return look.told_rows()


def share_holds(net, measure, seen, rows):
    """Tells whether a list is just the weighing of this seen value."""
    return rows == weighing(net, measure, seen)


def rare_share(net, found, seen):
    """Tells the share of the counts that come in no more dealings than the seen one."""
    seen_dealings = dealings_of([(count, dealings) for count, dealings in found if count == seen])
    return share_of(net, [(count, dealings) for count, dealings in found if dealings <= seen_dealings])


def double_share(net, found, seen):
    """Tells twice the share of the counts on the seen one's narrower side, at most 1."""
    up = dealings_of([(count, dealings) for count, dealings in found if count >= seen])
    down = dealings_of([(count, dealings) for count, dealings in found if count <= seen])
    return lowest(min(2 * min(up, down), net.dealings()), net.dealings())


def mean_share(net, found, seen):
    """Tells the share of the counts that are as far from the mean as the seen one, or farther."""
    # All is held as so many times all dealings, so that the mean is a whole number.
    many = net.dealings()
    mean = sum([count * dealings for count, dealings in found])
    far = abs(seen * many - mean)
    return share_of(net, [(count, dealings) for count, dealings in found if abs(count * many - mean) >= far])


def two_sided(net, seen, *, place=(0, 0), rule="rare"):
    """Tells the share, by a rule for both sides, of a seen count in one cell."""
    if rule not in RULES:
        raise BadRule(f"there is no rule {rule}")
    found = cell_spread(net, place)
    if rule == "rare":
        return rare_share(net, found, seen)
    if rule == "double":
        return double_share(net, found, seen)
    return mean_share(net, found, seen)


def check_level(level):
    top, under = level
    if under < 1 or not 0 <= top <= under:
        raise BadNumber(f"there is no level {top} over {under}")


def strangest_first(net, measure):
    found = spread(net, measure)
    return found if measure.beyond(found[0][0], found[-1][0]) else found[::-1]


def spare_part(level, ahead, own, dealings):
    """Tells the part of a value's own dealings that fits under the level behind those ahead."""
    top, under = level
    return lowest(top * dealings - ahead * under, own * under)


def threshold(net, measure, *, level=LEVEL):
    """Tells the least strange value whose share fits under a level, that share, and the spare."""
    check_same_sums(net, measure)
    check_level(level)
    dealings = net.dealings()
    fitting_value = None
    ahead = 0
    for value, own in strangest_first(net, measure):
        if held((ahead + own, dealings), level) > 0:
            return (fitting_value, lowest(ahead, dealings), spare_part(level, ahead, own, dealings))
        fitting_value = value
        ahead += own
    return (fitting_value, (1, 1), (0, 1))
