"""Every name, argument and default of the interface, as DOC.md has them."""

import importlib
import inspect
import unittest

FUNCTIONS = {
    "counts": ["ways(parts)", "lowest(top, under)", "plus(one, other)", "times(one, other)", "held(one, other)",
               "fillings(rests, many, pairs)"],
    "bounds": ["free(rows, columns, *, pair=(0, 40))", "keeps(rows, bounds)", "bounds_turned(bounds)",
               "bounds_joined(bounds, one, other, *, rows=True)", "bounds_parted(bounds, one, *, rows=True)"],
    "fits": ["fitting(rowsums, columnsums, *, bounds=None)", "room(rowsums, columnsums, over, into, *, bounds=None)"],
    "net": ["net_holds(rowsums, columnsums, paper, *, bounds=None)"],
    "order": ["kth_table(net, k)", "kth_dealing(net, k)", "number_of(net, rows)", "stretch(net, rows)"],
    "ends": ["ends(net, measure)", "ends_hold(net, measure, rows)"],
    "shares": ["spread(net, measure)", "share(net, measure, seen, *, side='beyond')", "weighing(net, measure, seen)",
               "share_holds(net, measure, seen, rows)", "two_sided(net, seen, *, place=(0, 0), rule='rare')",
               "threshold(net, measure, *, level=(1, 20))"],
    "loops": ["loops(one, other)", "walked(rows, loop)"],
    "means": ["mean(net, row, column)", "pair_mean(net, one, other)"],
    "layers": ["gathering(nets, *, place=(0, 0))",
               "odds_share(nets, seen, *, odds=(1, 1), place=(0, 0), up=True)",
               "parts_share(nets, parts, *, place=(0, 0))"],
    "pages": ["page(book)", "read_page(text)"],
}
# Each class, told with what it is made of, and its methods.
CLASSES = {
    "table": ["Table(rows)", "cells()", "rowsums()", "columnsums()", "total()", "turned()",
              "joined(one, other, *, rows=True)", "parted(one, taken, *, rows=True)", "more(row, column, *, many=1)"],
    "net": ["Net(rowsums, columnsums, *, bounds=None)", "rowsums()", "columnsums()", "bounds()", "tables()",
            "dealings()", "counts_at(level, rests)", "steps(level, rests)", "paper()"],
    "measures": ["Measure(kind, rowsums, columnsums, *, place=(0, 0))", "part(column, counts)", "together(one, other)",
                 "begun()", "of(rows)", "beyond(value, seen)"],
    "looks": ["Look(net, measure, seen)", "step(*, many=1)", "told_rows()", "between()", "ended()"],
    "book": ["Book(*, most=8)", "put(name, rows, *, bounds=None)", "come(name, row, column, *, many=1)",
             "unite(name, one, other, *, rows=True)", "part_out(name, one, taken, *, rows=True)", "turn(name)",
             "drop(name)", "bar(name, row, column, *, low=0, high=0)", "undo()", "redo()", "settle()", "run(deeds)",
             "depth()", "names()", "table(name)", "bounds(name)", "net(name)", "number(name)",
             "share(name, kind, *, place=(0, 0), side='beyond')", "mean(name, row, column)",
             "look(name, kind, *, place=(0, 0))", "twin()"],
    "desk": ["Desk(book)", "tell(line)", "told()"],
}
VALUES = {
    "bounds": {"MOST": 40, "FREE": (0, 40)},
    "net": {"WIDE": 500},
    "measures": {"KINDS": ("rare", "square", "power", "off", "most", "least")},
    "shares": {"SIDES": ("beyond", "same", "under", "mid"), "RULES": ("rare", "double", "mean"), "LEVEL": (1, 20)},
    "book": {"TABLES": 8},
}


def module(name):
    return importlib.import_module(f"edgetally.{name}")


def name_in(told):
    return told.partition("(")[0]


class Interface(unittest.TestCase):
    def test_functions(self):
        for file, functions in FUNCTIONS.items():
            for told in functions:
                with self.subTest(file=file, told=told):
                    found = getattr(module(file), name_in(told))
                    self.assertTrue(inspect.isfunction(found))
                    self.assertEqual(f"{name_in(told)}{inspect.signature(found)}", told)

    def test_classes_and_methods(self):
        for file, (made, *methods) in CLASSES.items():
            found = getattr(module(file), name_in(made))
            self.assertTrue(inspect.isclass(found))
            self.assertEqual(f"{name_in(made)}{inspect.signature(found)}", made)
            for told in methods:
                with self.subTest(file=file, told=told):
                    method = getattr(found, name_in(told))
                    signature = str(inspect.signature(method)).replace("(self, ", "(").replace("(self)", "()")
                    self.assertEqual(f"{name_in(told)}{signature}", told)

    def test_values(self):
        for file, values in VALUES.items():
            for name, value in values.items():
                with self.subTest(file=file, name=name):
                    found = getattr(module(file), name)
                    self.assertEqual((type(found), found), (type(value), value))


if __name__ == "__main__":
    unittest.main()
