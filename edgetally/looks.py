"""Looks: the weighing of a seen value, gone through row by row."""

from edgetally.counts import lowest, ways
from edgetally.ends import ends_by_node
from edgetally.errors import BadNumber
from edgetally.net import rests_behind


class Look:
    """A way through the weighing of a seen value, which closes in on the value's share."""

    def __init__(self, net, measure, seen):
        self.ends_at = ends_by_node(net, measure)
        self.asked_net = net
        self.asked_measure = measure
        self.seen = seen
        self.gone = []
        self.dealings_in = 0
        self.dealings_out = 0
        # The rows of one level wait in their order; those of the next come together meanwhile,
        # since any open row of this level may add to any of them.
        self.level = 0
        self.waiting = [(tuple(net.rowsums()), measure.begun(), 1)]
        self.at = 0
        self.coming = {}

    def verdict_of(self, rests, gathered):
        least, greatest = self.ends_at[(self.level, rests)]
        # The seen value parts all values in two, so what holds of both ends holds between them.
        ends_beyond = [
            self.asked_measure.beyond(self.asked_measure.together(gathered, end), self.seen)
            for end in (least, greatest)
        ]
        if all(ends_beyond):
            return "in"
        return "open" if any(ends_beyond) else "out"

    def lead_on(self, rests, gathered, dealings):
        for counts in self.asked_net.steps(self.level, rests):
            part = self.asked_measure.part(self.level, counts)
            behind = (rests_behind(rests, counts), self.asked_measure.together(gathered, part))
            self.coming[behind] = self.coming.get(behind, 0) + dealings * ways(counts)

    def go_down(self):
        self.waiting = [
            (rests, gathered, dealings)
            for (rests, gathered), dealings in sorted(self.coming.items())
        ]
        self.coming = {}
        self.level += 1
        self.at = 0

    def tell_next(self):
        rests, gathered, dealings = self.waiting[self.at]
        verdict = self.verdict_of(rests, gathered)
        weight = dealings * self.asked_net.counts_at(self.level, rests)[1]
        if verdict == "in":
            self.dealings_in += weight
        elif verdict == "out":
            self.dealings_out += weight
        else:
            self.lead_on(rests, gathered, dealings)
        self.gone.append((self.level, rests, gathered, dealings, verdict))
        self.at += 1
        if self.at == len(self.waiting):
            self.go_down()

    def step(self, *, many=1):
        """Goes on by so many rows, or as many as are left, and tells how many."""
        if many < 0:
            raise BadNumber(f"a look can't go on by {many} rows")
        went = 0
        while went < many and not self.ended():
            self.tell_next()
            went += 1
        return went

    def told_rows(self):
        """Tells the rows so far."""
        return list(self.gone)

    def between(self):
        """Tells two fractions that the share lies between."""
        dealings = self.asked_net.dealings()
        return (lowest(self.dealings_in, dealings), lowest(dealings - self.dealings_out, dealings))

    def ended(self):
        """Tells whether no row is left."""
        return self.at == len(self.waiting)
