"""The ends of a net by a measure: the least and the greatest that can come of each node."""

from edgetally.errors import BadSums
from edgetally.net import rests_behind


def check_same_sums(net, measure):
    """Refuses a net and a measure that have not the same lists of sums."""
    if net.rowsums() != measure.rowsums() or net.columnsums() != measure.columnsums():
        raise BadSums("the net and the measure have not the same sums")


def node_ends(net, measure, level, rests, found):
    """Tells a node's least and greatest out of those of the next level."""
    if level == len(net.columnsums()):
        return (measure.begun(), measure.begun())
    leasts = []
    greatests = []
    for counts in net.steps(level, rests):
        # No part is below nought, so a lesser end behind makes a lesser end here.
        least, greatest = found[(level + 1, rests_behind(rests, counts))]
        part = measure.part(level, counts)
        leasts.append(measure.together(part, least))
        greatests.append(measure.together(part, greatest))
    return (min(leasts), max(greatests))


def ends_by_node(net, measure):
    """Tells the least and the greatest of each node that has tables."""
    check_same_sums(net, measure)
    found = {}
    for level, rests, tables, dealings in net.paper()[::-1]:
        if tables > 0:
            found[(level, rests)] = node_ends(net, measure, level, rests, found)
    return found


def ends(net, measure):
    """Tells (level, rests, least, greatest) of each node that has tables, by rising level and rests."""
    found = ends_by_node(net, measure)
    return [
        (level, rests, found[(level, rests)][0], found[(level, rests)][1])
        for level, rests, tables, dealings in net.paper()
        if tables > 0
    ]


def ends_hold(net, measure, rows):
    """Tells whether a list is just the ends of this net by this measure."""
    return rows == ends(net, measure)
