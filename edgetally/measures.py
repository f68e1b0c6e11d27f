"""Measures: a whole number for each table with told sums, and which of two is stranger."""

from edgetally.bounds import check_cell, check_sums, rows_turned
from edgetally.counts import common_factor, power, ways
from edgetally.errors import BadRule

KINDS = ("rare", "square", "power", "off", "most", "least")
BY_PRODUCT = ("rare", "power")
BY_PLACE = ("most", "least")
LESS_IS_STRANGER = ("rare", "least")


def least_common(numbers):
    """Tells the least number that all of these, none of them nought, go into."""
    told = 1
    for number in numbers:
        told = told * number // common_factor(told, number)
    return told


def power_part(counts):
    told = 1
    for count in counts:
        told *= power(count, count)
    return told


def square_part(counts, products, even):
    return sum([
        count * count * even // product
        for count, product in zip(counts, products)
        if product > 0
    ])


def off_part(counts, products, things):
    return sum([abs(count * things - product) for count, product in zip(counts, products)])


class Measure:
    """A measure of one kind for all tables with these sums."""

    def __init__(self, kind, rowsums, columnsums, *, place=(0, 0)):
        check_sums(rowsums, columnsums)
        if kind not in KINDS:
            raise BadRule(f"there is no measure {kind}")
        if kind in BY_PLACE:
            check_cell(place[0], place[1], len(rowsums), len(columnsums))
        self.kind = kind
        self.row_list = list(rowsums)
        self.column_list = list(columnsums)
        self.place = place
        self.even = least_common([
            across * down for across in rowsums for down in columnsums if across * down > 0
        ])

    def rowsums(self):
        """Tells the row sums."""
        return list(self.row_list)

    def columnsums(self):
        """Tells the column sums."""
        return list(self.column_list)

    def part(self, column, counts):
        """Tells what a column, filled with these counts, brings to the measure."""
        if self.kind == "rare":
            return ways(counts)
        if self.kind == "power":
            return power_part(counts)
        if self.kind in BY_PLACE:
            return counts[self.place[0]] if column == self.place[1] else 0
        products = [across * self.column_list[column] for across in self.row_list]
        if self.kind == "square":
            return square_part(counts, products, self.even)
        return off_part(counts, products, sum(self.row_list))

    def together(self, one, other):
        """Tells what two parts go together to."""
        return one * other if self.kind in BY_PRODUCT else one + other

    def begun(self):
        """Tells what the measure begins with."""
        return 1 if self.kind in BY_PRODUCT else 0

    def of(self, rows):
        """Tells the measure of a table, told as rows."""
        gathered = self.begun()
        for column, counts in enumerate(rows_turned(rows)):
            gathered = self.together(gathered, self.part(column, counts))
        return gathered

    def beyond(self, value, seen):
        """Tells whether a value is as strange as the seen one, or stranger."""
        return value <= seen if self.kind in LESS_IS_STRANGER else value >= seen
