"""Nets with a measure and a seen value, and their weighing as the tests reckon it, by listing tables."""

import random

from edgetally.looks import Look
from edgetally.measures import KINDS, Measure
from edgetally.net import Net
from listing import (
    all_free,
    dealings_of,
    fraction,
    left_by,
    listed_nets,
    nodes_with_tables,
    stranger,
    table_value,
    value_of,
    ways_of,
)


class Case:
    """A net and a measure, with the weighing of a seen value as the test reckons it."""

    def __init__(self, kind, rowsums, columnsums, bounds, tables, place, seen):
        self.kind, self.place, self.seen, self.tables = kind, place, seen, tables
        self.rowsums, self.columnsums = rowsums, columnsums
        self.nodes = nodes_with_tables(rowsums, columnsums, bounds or all_free(len(rowsums), len(columnsums)))
        self.net = Net(rowsums, columnsums, bounds=bounds)
        self.measure = Measure(kind, rowsums, columnsums, place=place)
        self.all_dealings = sum(dealings_of(rows) for rows in tables)

    def __repr__(self):
        return f"{self.kind} {self.rowsums} {self.columnsums} {self.net.bounds()} {self.place} {self.seen}"

    def look(self):
        return Look(self.net, self.measure, self.seen)

    def put_to(self, gathered, columns, level):
        part = value_of(self.kind, self.rowsums, self.columnsums, columns, self.place, level)
        return gathered * part if self.kind in ("rare", "power") else gathered + part

    def verdict(self, level, rests, gathered):
        beyond = [
            stranger(self.kind, self.put_to(gathered, columns, level), self.seen)
            for columns in self.nodes[level, rests]
        ]
        return "in" if all(beyond) else "open" if any(beyond) else "out"

    def weighing(self):
        told, here = [], {(tuple(self.rowsums), 1 if self.kind in ("rare", "power") else 0): 1}
        for level in range(len(self.columnsums) + 1):
            behind = {}
            for (rests, gathered), dealings in sorted(here.items()):
                verdict = self.verdict(level, rests, gathered)
                told.append((level, rests, gathered, dealings, verdict))
                if verdict == "open":
                    for counts in {columns[0] for columns in self.nodes[level, rests]}:
                        key = left_by(rests, counts), self.put_to(gathered, [counts], level)
                        behind[key] = behind.get(key, 0) + dealings * ways_of(counts)
            here = behind
        return told

    def between(self, rows):
        """The two fractions that the first rows of the weighing tell."""
        found = {"in": 0, "out": 0, "open": 0}
        for level, rests, gathered, dealings, verdict in rows:
            node_dealings = sum(
                value_of("rare", self.rowsums, self.columnsums, columns) for columns in self.nodes[level, rests])
            found[verdict] += dealings * node_dealings
        return fraction(found["in"], self.all_dealings), fraction(self.all_dealings - found["out"], self.all_dealings)

    def share(self):
        """The share `beyond`, by going through all tables."""
        top = sum(
            dealings_of(rows)
            for rows in self.tables
            if stranger(self.kind, table_value(self.kind, rows, self.place), self.seen)
        )
        return fraction(top, self.all_dealings)


def cases(seed, many):
    chance = random.Random(seed)
    for rowsums, columnsums, bounds, tables in listed_nets(seed, many):
        for kind in KINDS:
            place = (chance.randrange(len(rowsums)), chance.randrange(len(columnsums)))
            values = sorted({table_value(kind, rows, place) for rows in tables})
            # Values that some table has, and such as lie between them or beyond all of them.
            for seen in {chance.choice(values), chance.choice(values) + chance.choice([-1, 1]), values[-1] + 1, -1}:
                yield Case(kind, rowsums, columnsums, bounds, tables, place, seen)
