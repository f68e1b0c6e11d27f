import random
import unittest

from edgetally.book import Book
from edgetally.bounds import FREE
from edgetally.errors import BadCell, BadRule, EdgeError, Nothing, TooWide, Unknown
from edgetally.looks import Look
from edgetally.means import mean
from edgetally.measures import KINDS, Measure
from edgetally.net import Net
from edgetally.order import number_of
from edgetally.shares import SIDES, share, weighing
from edgetally.table import Table
from ledger import do, drawn_deed, drawn_put, state_of

ROWS = [[1, 2], [0, 4]]
BOUNDS = [[FREE, (1, 3)], [(0, 2), FREE]]
WIDE = [[10, 0], [0, 10], [5, 0]]


def new_objects(rows, bounds, kind, place=(0, 0)):
    """A net and a measure made anew of rows and bounds, and the rows' own value."""
    rowsums, columnsums = [sum(row) for row in rows], [sum(column) for column in zip(*rows)]
    measure = Measure(kind, rowsums, columnsums, place=place)
    return Net(rowsums, columnsums, bounds=bounds), measure, measure.of(rows)


def gone_to_its_end(look):
    look.step(many=10 ** 6)
    return look.told_rows(), look.between(), look.ended()


class Asking(unittest.TestCase):
    def answers_are_new(self, book, name, rows, bounds, kind, place, side):
        """Each answer is the one that new objects, made of the table and bounds, give."""
        net, measure, seen = new_objects(rows, bounds, kind, place)
        self.assertEqual(book.table(name), Table(rows))
        self.assertEqual(book.bounds(name), bounds)
        self.assertEqual(book.net(name), net)
        self.assertEqual(book.net(name).paper(), net.paper())
        self.assertEqual(book.number(name), number_of(net, rows))
        self.assertEqual(book.mean(name, *place), mean(net, *place))
        self.assertEqual(book.share(name, kind, place=place, side=side), share(net, measure, seen, side=side))
        self.assertEqual(gone_to_its_end(book.look(name, kind, place=place)), gone_to_its_end(Look(net, measure, seen)))

    def test_by_hand(self):
        book = Book()
        book.put("first", [[1, 1], [0, 1]])
        self.assertEqual((book.names(), book.number("first"), book.net("first").tables()), (["first"], 1, 2))
        self.assertEqual(book.share("first", "rare"), (1, 1))
        self.assertEqual(book.share("first", "most"), (2, 3))
        self.assertEqual(book.share("first", "most", place=(0, 1), side="same"), (2, 3))
        self.assertEqual(book.share("first", "least", place=(1, 0)), (2, 3))
        self.assertEqual(book.mean("first", 0, 1), (4, 3))
        book.bar("first", 1, 0)
        self.assertEqual((book.number("first"), book.net("first").tables()), (0, 1))
        self.assertEqual(book.mean("first", 0, 1), (1, 1))

    def test_kinds_of_what_is_told(self):
        book = Book()
        book.put("first", ROWS)
        self.assertIsInstance(book.table("first"), Table)
        self.assertIsInstance(book.net("first"), Net)
        self.assertIsInstance(book.look("first", "rare"), Look)
        self.assertIs(type(book.number("first")), int)
        self.assertIs(type(book.share("first", "rare")), tuple)
        self.assertIs(type(book.mean("first", 0, 0)), tuple)
        self.assertEqual((type(book.names()), type(book.bounds("first"))), (list, list))

    def test_names_rise(self):
        book = Book()
        for name in ("b", "a", "c10", "c9", "aa", "z"):
            book.put(name, [[1]])
        self.assertEqual(book.names(), ["a", "aa", "b", "c10", "c9", "z"])

    def test_place_and_side_left_out(self):
        book = Book()
        book.put("first", ROWS, bounds=BOUNDS)
        for kind in KINDS:
            told = book.share("first", kind)
            self.assertEqual(told, book.share("first", kind, place=(0, 0), side="beyond"))
            look = gone_to_its_end(book.look("first", kind))
            self.assertEqual(look, gone_to_its_end(book.look("first", kind, place=(0, 0))))
            self.assertEqual(look[1], (told, told))

    def test_ahead_of_and_behind_deeds_undo_redo_and_runs(self):
        asked = 0
        for seed in range(12):
            chance = random.Random(1000 + seed)
            book = Book()
            for at in range(60):
                self.one_more(chance, book)
                for name, (rows, bounds) in state_of(book).items():
                    place = (chance.randrange(len(rows)), chance.randrange(len(rows[0])))
                    kind, side = chance.choice(KINDS), chance.choice(SIDES)
                    try:
                        net = book.net(name)
                    except TooWide:
                        continue
                    if net.tables() <= 2000 and chance.random() < 0.4:
                        asked += 1
                        with self.subTest(seed=seed, at=at, name=name):
                            self.answers_are_new(book, name, rows, bounds, kind, place, side)
        self.assertGreater(asked, 300)

    def one_more(self, chance, book):
        try:
            word = chance.choice(["deed"] * 6 + ["undo", "undo", "redo", "redo", "run", "put"])
            if word == "put":
                do(book, drawn_put(chance, chance.choice(["a", "b", "c"])))
            elif word == "run":
                state = state_of(book)
                book.run([deed[:3] if deed[0] == "put" else deed for deed in [drawn_deed(chance, state)] * 2])
            elif word == "deed":
                do(book, drawn_deed(chance, state_of(book)))
            else:
                book.undo() if word == "undo" else book.redo()
        except EdgeError:
            pass

    def test_a_told_net_and_look_stay(self):
        book = Book()
        book.put("first", ROWS, bounds=BOUNDS)
        book.come("first", 0, 0)
        rows = book.table("first").cells()
        net, look, stepped = book.net("first"), book.look("first", "off"), book.look("first", "off")
        paper = net.paper()
        stepped.step()
        for deed in (
            lambda: book.come("first", 1, 1, many=3), lambda: book.bar("first", 0, 0, low=2, high=2),
            lambda: book.turn("first"), lambda: book.unite("first", 0, 1), book.undo, book.undo, book.undo, book.redo,
            book.settle, lambda: book.drop("first"), lambda: book.put("first", [[9]]),
        ):
            deed()
            self.assertEqual((net.paper(), net.bounds()), (paper, BOUNDS))
            stepped.step()
        made, measure, seen = new_objects(rows, BOUNDS, "off")
        self.assertEqual(net, made)
        self.assertGreater(len(weighing(made, measure, seen)), 2)
        self.assertEqual(gone_to_its_end(look), gone_to_its_end(Look(made, measure, seen)))
        self.assertEqual(gone_to_its_end(stepped), gone_to_its_end(Look(made, measure, seen)))

    def test_a_look_gone_on_with_changes_no_answer(self):
        book = Book()
        book.put("first", ROWS)
        told = book.share("first", "off")
        look = book.look("first", "off")
        look.step(many=3)
        self.assertEqual(book.look("first", "off").told_rows(), [])
        self.assertEqual(book.share("first", "off"), told)
        self.assertEqual(book.depth(), (1, 0))


class Refused(unittest.TestCase):
    def book(self):
        book = Book()
        book.put("first", ROWS)
        book.put("wide", WIDE)
        return book

    def test_unknown_ahead_of_all_else(self):
        book = self.book()
        for name in ("other", "", "First", "9"):
            for asked in (
                lambda: book.table(name), lambda: book.bounds(name), lambda: book.net(name), lambda: book.number(name),
                lambda: book.share(name, "none", place=(9, 9), side="none"), lambda: book.mean(name, 9, 9),
                lambda: book.look(name, "none", place=(9, 9)),
            ):
                with self.assertRaises(Unknown) as caught:
                    asked()
                self.assertEqual(caught.exception.name, name)
                self.assertIsInstance(caught.exception, EdgeError)

    def test_a_table_too_wide_for_a_net(self):
        book = self.book()
        for asked in (
            lambda: book.net("wide"), lambda: book.number("wide"), lambda: book.mean("wide", 9, 9),
            lambda: book.share("wide", "none", place=(9, 9), side="none"),
            lambda: book.look("wide", "none", place=(9, 9)),
        ):
            with self.assertRaises(TooWide) as caught:
                asked()
            self.assertEqual(caught.exception.wide, 11 * 11 * 6)
        self.assertEqual(book.table("wide").cells(), WIDE)
        self.assertEqual(book.bounds("wide"), [[FREE, FREE]] * 3)
        book.unite("wide", 0, 1)
        self.assertEqual(book.net("wide").dealings(), 53130)

    def test_then_kind_place_and_side(self):
        book = self.book()
        for kind in ("none", "", "Rare", "mean"):
            with self.assertRaises(BadRule):
                book.share("first", kind, place=(9, 9))
            with self.assertRaises(BadRule):
                book.look("first", kind, place=(9, 9))
        for kind in ("most", "least"):
            for place in ((2, 0), (0, 2), (-1, 0), (0, -1)):
                with self.assertRaises(BadCell):
                    book.share("first", kind, place=place, side="none")
                with self.assertRaises(BadCell):
                    book.look("first", kind, place=place)
        for kind in KINDS:
            with self.assertRaises(BadRule):
                book.share("first", kind, side="none")
        self.assertEqual(book.share("first", "rare", place=(9, 9)), book.share("first", "rare"))

    def test_a_mean_of_no_cell(self):
        book = self.book()
        for row, column in ((2, 0), (0, 2), (-1, 0), (0, -1), (9, 9)):
            with self.assertRaises(BadCell):
                book.mean("first", row, column)

    def test_questions_are_no_steps(self):
        book = self.book()
        book.undo()
        ahead = state_of(book)
        for asked in (
            lambda: book.share("first", "rare"), lambda: book.share("other", "rare"), lambda: book.net("first"),
            lambda: book.mean("first", 9, 9), lambda: book.look("first", "most"), book.names, book.twin,
        ):
            try:
                asked()
            except EdgeError:
                pass
            self.assertEqual((state_of(book), book.depth()), (ahead, (1, 1)))


class Twins(unittest.TestCase):
    def begun(self):
        """A book with three steps to undo and two to redo."""
        book = Book(most=2)
        book.put("first", ROWS, bounds=BOUNDS)
        book.come("first", 0, 0)
        book.put("second", [[7]])
        book.turn("first")
        book.bar("second", 0, 0, low=1, high=9)
        book.undo()
        book.undo()
        return book

    def test_the_same_tables_bounds_and_steps(self):
        book = self.begun()
        twin = book.twin()
        self.assertIsInstance(twin, Book)
        self.assertEqual((state_of(twin), twin.depth()), (state_of(book), (3, 2)))
        for deed in ("redo", "redo", "undo", "undo", "undo", "undo", "undo"):
            for either in (book, twin):
                either.redo() if deed == "redo" else either.undo()
            self.assertEqual((state_of(twin), twin.depth()), (state_of(book), book.depth()))
            self.assertTrue(twin == book)
        for either in (book, twin):
            with self.assertRaises(Nothing):
                either.undo()

    def test_the_same_most(self):
        twin = self.begun().twin()
        with self.assertRaises(EdgeError) as caught:
            twin.put("third", [[1]])
        self.assertEqual(caught.exception.word, "full")
        self.assertEqual(len(Book(most=5).twin()), 0)

    def test_each_goes_its_own_way(self):
        for first, second in (("book", "twin"), ("twin", "book")):
            both = {"book": self.begun()}
            both["twin"] = both["book"].twin()
            one, other = both[first], both[second]
            ahead = state_of(other)
            one.come("first", 1, 1)
            one.drop("second")
            self.assertEqual((state_of(other), other.depth()), (ahead, (3, 2)))
            other.redo()
            self.assertEqual((one.depth(), one.names()), ((5, 0), ["first"]))
            self.assertEqual(other.table("first").cells(), [[2, 0], [2, 4]])
            one.undo()
            one.undo()
            one.undo()
            self.assertEqual((state_of(one).keys(), one.depth()), ({"first"}, (2, 3)))
            self.assertEqual(other.depth(), (4, 1))
            one.settle()
            self.assertEqual(other.depth(), (4, 1))
            other.redo()
            self.assertEqual(other.bounds("second"), [[(1, 9)]])

    def test_a_twin_of_a_twin(self):
        book = self.begun()
        twin = book.twin().twin()
        book.drop("first")
        self.assertEqual((twin.names(), twin.depth()), (["first", "second"], (3, 2)))


class Likeness(unittest.TestCase):
    def book(self, *puts, most=8):
        book = Book(most=most)
        for name, rows, bounds in puts:
            book.put(name, rows, bounds=bounds)
        return book

    def alike(self, one, other, told):
        self.assertIs(one == other, told)
        self.assertIs(other == one, told)
        self.assertIs(one != other, not told)

    def test_names_tables_and_bounds(self):
        one = self.book(("a", ROWS, BOUNDS), ("b", [[1]], None))
        self.alike(one, self.book(("a", ROWS, BOUNDS), ("b", [[1]], None)), True)
        self.alike(one, self.book(("b", [[1]], [[FREE]]), ("a", ROWS, BOUNDS)), True)
        self.alike(one, self.book(("a", ROWS, BOUNDS), ("c", [[1]], None)), False)
        self.alike(one, self.book(("a", ROWS, BOUNDS), ("b", [[2]], None)), False)
        self.alike(one, self.book(("a", ROWS, BOUNDS), ("b", [[1]], [[(0, 39)]])), False)
        self.alike(one, self.book(("a", ROWS, None), ("b", [[1]], None)), False)
        self.alike(one, self.book(("a", ROWS, BOUNDS)), False)
        self.alike(one, self.book(), False)
        self.alike(self.book(), self.book(), True)

    def test_whatever_steps_and_most(self):
        one, other = self.book(("a", ROWS, None)), self.book(("a", ROWS, None), most=1)
        one.come("a", 0, 0)
        one.come("a", 0, 0, many=-1)
        self.alike(one, other, True)
        other.settle()
        one.undo()
        self.alike(one, other, False)
        one.undo()
        self.alike(one, other, True)

    def test_what_is_no_book(self):
        book = self.book(("a", ROWS, None))
        for other in (None, 0, 1, "a", [], {}, {"a": ROWS}, (), Table(ROWS), Net([1], [1])):
            self.assertIs(book == other, False)
            self.assertIs(book != other, True)

    def test_len(self):
        book = Book()
        self.assertEqual(len(book), 0)
        for at in range(8):
            book.put(f"t{at}", [[at]])
            self.assertEqual(len(book), at + 1)
        book.drop("t0")
        self.assertEqual(len(book), 7)
        book.undo()
        self.assertEqual(len(book), 8)
        self.assertIs(type(len(book)), int)


if __name__ == "__main__":
    unittest.main()
