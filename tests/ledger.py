"""A book as the tests keep it: plain rows and bounds by names, with deeds done and refused by hand."""

import copy
import re

from edgetally.bounds import FREE
from listing import all_free, columns_of


class No(Exception):
    """A refusal: the word, and the fields that go with it."""

    def __init__(self, word, **fields):
        Exception.__init__(self, word)
        self.told = (word, fields)


def no_table(rows):
    lengths = {len(counts) for counts in rows}
    counts = [count for row in rows for count in row]
    return not (1 <= len(rows) <= 4 and len(lengths) == 1 and lengths <= set(range(1, 7))
                and min(counts) >= 0 and sum(counts) <= 40)


def no_pair(low, high):
    return not 0 <= low <= high <= 40


def no_bounds(rows, bounds):
    shape = [len(pairs) for pairs in bounds] == [len(counts) for counts in rows]
    return not shape or any(no_pair(*pair) for pairs in bounds for pair in pairs)


def check_inside(rows, bounds):
    for row, counts in enumerate(rows):
        for column, count in enumerate(counts):
            if not bounds[row][column][0] <= count <= bounds[row][column][1]:
                raise No("outside", row=row, column=column)


def there(state, name):
    if name not in state:
        raise No("unknown", name=name)
    return copy.deepcopy(state[name])


def check_cell(rows, row, column):
    if row not in range(len(rows)) or column not in range(len(rows[0])):
        raise No("cell")


def put(state, most, name, rows, bounds=None):
    if not re.fullmatch("[a-z][a-z0-9]{0,11}", name):
        raise No("name")
    if name in state:
        raise No("taken", name=name)
    if len(state) >= most:
        raise No("full")
    if no_table(rows):
        raise No("table")
    bounds = all_free(len(rows), len(rows[0])) if bounds is None else bounds
    if no_bounds(rows, bounds):
        raise No("bounds")
    check_inside(rows, bounds)
    return name, rows, bounds


def come(state, most, name, row, column, many):
    rows, bounds = there(state, name)
    check_cell(rows, row, column)
    rows[row][column] += many
    check_inside(rows, bounds)
    if sum(map(sum, rows)) > 40:
        raise No("many")
    return name, rows, bounds


def unite(state, most, name, one, other, by_rows):
    rows, bounds = there(state, name)
    if not by_rows:
        rows, bounds = columns_of(rows), columns_of(bounds)
    if one == other or not {one, other} <= set(range(len(rows))):
        raise No("cell")
    rows[one] = [here + more for here, more in zip(rows[one], rows[other])]
    bounds[one] = [
        (low + more_low, min(40, high + more_high))
        for (low, high), (more_low, more_high) in zip(bounds[one], bounds[other])
    ]
    rows.pop(other)
    bounds.pop(other)
    return (name, rows, bounds) if by_rows else (name, columns_of(rows), columns_of(bounds))


def part_out(state, most, name, one, taken, by_rows):
    rows, bounds = there(state, name)
    if not by_rows:
        rows, bounds = columns_of(rows), columns_of(bounds)
    if one not in range(len(rows)):
        raise No("cell")
    wrong = len(taken) != len(rows[one]) or any(not 0 <= out <= count for out, count in zip(taken, rows[one]))
    if wrong or len(rows) == (4 if by_rows else 6):
        raise No("table")
    rows.insert(one + 1, list(taken))
    rows[one] = [count - out for count, out in zip(rows[one], taken)]
    bounds[one] = [(0, high) for low, high in bounds[one]]
    bounds.insert(one + 1, list(bounds[one]))
    return (name, rows, bounds) if by_rows else (name, columns_of(rows), columns_of(bounds))


def turn(state, most, name):
    rows, bounds = there(state, name)
    if len(rows[0]) > 4:
        raise No("table")
    return name, columns_of(rows), columns_of(bounds)


def drop(state, most, name):
    there(state, name)
    return name, None, None


def bar(state, most, name, row, column, low, high):
    rows, bounds = there(state, name)
    check_cell(rows, row, column)
    if no_pair(low, high):
        raise No("bounds")
    if not low <= rows[row][column] <= high:
        raise No("outside", row=row, column=column)
    bounds[row][column] = (low, high)
    return name, rows, bounds


DEEDS = {"put": put, "come": come, "unite": unite, "part_out": part_out, "turn": turn, "drop": drop, "bar": bar}


def behind(state, most, deed):
    """The state behind a deed, told as `run` takes it (a put may have bounds, too)."""
    if deed[0] not in DEEDS:
        raise No("rule")
    name, rows, bounds = DEEDS[deed[0]](state, most, *deed[1:])
    told = copy.deepcopy(state)
    told.pop(name, None)
    if rows is not None:
        told[name] = (copy.deepcopy(rows), copy.deepcopy(bounds))
    return told


def state_of(book):
    """All that a book tells of its tables and bounds."""
    return {name: (book.table(name).cells(), book.bounds(name)) for name in book.names()}


def do(book, deed):
    """Does a deed, told as `run` takes it, by the book's own method."""
    word, name, *rest = deed
    if word == "put":
        return book.put(name, rest[0], bounds=rest[1]) if len(rest) > 1 else book.put(name, rest[0])
    if word == "come":
        return book.come(name, rest[0], rest[1], many=rest[2])
    if word in ("unite", "part_out"):
        return (book.unite if word == "unite" else book.part_out)(name, rest[0], rest[1], rows=rest[2])
    if word == "bar":
        return book.bar(name, rest[0], rest[1], low=rest[2], high=rest[3])
    return book.turn(name) if word == "turn" else book.drop(name)


def fields_of(error):
    return {key: getattr(error, key) for key in ("name", "row", "column", "wide") if hasattr(error, key)}


def drawn_rows(chance, most=12):
    rows, columns = chance.choice([1, 1, 2, 2, 3, 4]), chance.choice([1, 2, 2, 3, 4, 5, 6])
    told = [[0] * columns for row in range(rows)]
    for thing in range(chance.randrange(most)):
        told[chance.randrange(rows)][chance.randrange(columns)] += 1
    return told


def drawn_pairs(chance, rows):
    """Bounds that mostly let the rows' counts be."""
    return [
        [chance.choice([FREE, FREE, (0, count), (count, 40), (max(0, count - 1), count + 2), (0, 3)]) for count in counts]
        for counts in rows
    ]


def drawn_put(chance, name):
    rows = chance.choice([[], [[1], [2, 3]], [[-1]], [[41]]]) if chance.random() < 0.1 else drawn_rows(chance)
    if not rows or chance.random() < 0.4:
        return ("put", name, rows)
    bounds = drawn_pairs(chance, rows)
    if chance.random() < 0.1:
        bounds[0][0] = chance.choice([(2, 1), (-1, 3), (0, 41)])
    return ("put", name, rows, bounds[1:] if chance.random() < 0.1 else bounds)


def drawn_taken(chance, state, name, one, by_rows):
    rows = state[name][0] if name in state else [[1, 1]]
    rows = rows if by_rows else columns_of(rows)
    if one not in range(len(rows)) or chance.random() < 0.1:
        return [chance.randrange(3) for count in range(chance.randrange(4))]
    return [chance.randrange(count + 1) for count in rows[one]]


def drawn_deed(chance, state):
    """A deed of any kind, which the state mostly lets be done."""
    word = chance.choice(["put", "put", "put", "come", "come", "come", "unite", "part_out", "part_out", "turn", "drop", "bar"])
    names = ["a", "b", "first", "t9", "longest00012"] + list(state) * 3
    name = chance.choice(names + ["", "9a", "A", "b c", "longest000123"] if chance.random() < 0.1 else names)
    row, column, by_rows = chance.randrange(-1, 4), chance.randrange(-1, 4), chance.random() < 0.5
    if word == "put":
        return drawn_put(chance, name)
    if word == "come":
        return (word, name, row, column, chance.choice([0, 1, 1, 2, 3, -1, -2, 40]))
    if word == "unite":
        return (word, name, row, column, by_rows)
    if word == "part_out":
        return (word, name, row, drawn_taken(chance, state, name, row, by_rows), by_rows)
    if word == "bar":
        return (word, name, row, column, chance.choice([0, 0, 0, 1, -1]), chance.choice([40, 40, 0, 2, 5, 41]))
    return (word, name)
