import copy
import random
import unittest

from edgetally import errors
from edgetally.book import TABLES, Book
from edgetally.bounds import FREE
from edgetally.errors import (
    BadBounds,
    BadCell,
    BadName,
    BadNumber,
    BadTable,
    EdgeError,
    Full,
    Outside,
    Taken,
    TooMany,
    Unknown,
)
from edgetally.table import Table
from ledger import No, behind, do, drawn_deed, fields_of, state_of

ROWS = [[1, 2], [0, 4]]
BOUNDS = [[FREE, (1, 3)], [(0, 0), FREE]]
BAD_NAMES = ("", "a" * 13, "9", "9a", "A", "aB", "a b", " a", "a ", "a-b", "a_b", "a/", "/", "~", "a\n", "\u00e9", "a\u00e9")
GOOD_NAMES = ("a", "z", "a" * 12, "a1", "a00000000009", "table")
BAD_TABLES = ([], [[]], [[0]] * 5, [[0] * 7], [[1], [2, 3]], [[-1]], [[1, -1], [0, 0]], [[41]], [[20, 20], [1, 0]])
BAD_BOUNDS = (
    [], [[FREE, FREE]], [[FREE], [FREE]], [[FREE, FREE], [FREE, FREE], [FREE, FREE]], [[FREE, FREE, FREE]] * 2,
    [[FREE, FREE], [FREE]], [[FREE, (2, 1)], [FREE, FREE]], [[FREE, FREE], [FREE, (0, 41)]],
    [[(-1, 5), FREE], [FREE, FREE]], [[(-2, -1), FREE], [FREE, FREE]], [[(41, 41), FREE], [FREE, FREE]],
)


def book_with(rows=ROWS, bounds=None, **most):
    book = Book(**most)
    book.put("first", rows, bounds=bounds)
    return book


class Refusing(unittest.TestCase):
    def refused(self, book, deed, error, **fields):
        """The deed is refused so, and the book behind it is as it was."""
        ahead, depth = state_of(book), book.depth()
        with self.assertRaises(error) as caught:
            deed()
        self.assertIs(type(caught.exception), error)
        self.assertIsInstance(caught.exception, EdgeError)
        self.assertEqual(fields_of(caught.exception), fields)
        self.assertEqual((state_of(book), book.depth()), (ahead, depth))


class Most(Refusing):
    def test_how_many_a_book_may_keep(self):
        self.assertEqual(TABLES, 8)
        for most in (1, 2, 8):
            book = Book(most=most)
            for at in range(most):
                book.put(f"t{at}", [[at]])
            self.refused(book, lambda: book.put("more", [[1]]), Full)
            self.assertEqual(len(book), most)

    def test_left_out_it_is_eight(self):
        book = Book()
        for at in range(8):
            book.put(f"t{at}", [[at]])
        self.refused(book, lambda: book.put("t8", [[1]]), Full)
        book.drop("t3")
        book.put("t8", [[1]])
        self.assertEqual(book.names(), ["t0", "t1", "t2", "t4", "t5", "t6", "t7", "t8"])

    def test_out_of_bounds(self):
        for most in (0, 9, -1, 100):
            with self.assertRaises(BadNumber) as caught:
                Book(most=most)
            self.assertIsInstance(caught.exception, EdgeError)

    def test_a_new_book(self):
        book = Book()
        self.assertEqual((book.names(), len(book), book.depth()), ([], 0, (0, 0)))


class Put(Refusing):
    def test_a_table_with_and_without_bounds(self):
        free = [[FREE, FREE], [FREE, FREE]]
        book = Book()
        self.assertIsNone(book.put("one", ROWS))
        self.assertIsNone(book.put("two", ROWS, bounds=None))
        self.assertIsNone(book.put("three", ROWS, bounds=BOUNDS))
        self.assertEqual(state_of(book), {"one": (ROWS, free), "two": (ROWS, free), "three": (ROWS, BOUNDS)})
        self.assertEqual(book.table("one"), Table(ROWS))
        self.assertIsInstance(book.table("one"), Table)

    def test_names(self):
        for name in GOOD_NAMES:
            book = Book()
            book.put(name, ROWS)
            self.assertEqual(book.names(), [name])
        book = Book()
        for name in BAD_NAMES:
            with self.subTest(name=name):
                self.refused(book, lambda: book.put(name, ROWS), BadName)

    def test_taken(self):
        book = book_with()
        self.refused(book, lambda: book.put("first", [[1]]), Taken, name="first")

    def test_no_table(self):
        book = book_with()
        for rows in BAD_TABLES:
            with self.subTest(rows=rows):
                self.refused(book, lambda: book.put("other", rows), BadTable)

    def test_no_bounds(self):
        book = book_with()
        for bounds in BAD_BOUNDS:
            with self.subTest(bounds=bounds):
                self.refused(book, lambda: book.put("other", [[9, 9], [9, 9]], bounds=bounds), BadBounds)

    def test_outside(self):
        book = book_with()
        for bounds, row, column in (
            ([[(2, 2), FREE], [FREE, FREE]], 0, 0),
            ([[FREE, (0, 1)], [FREE, FREE]], 0, 1),
            ([[FREE, FREE], [(1, 40), FREE]], 1, 0),
            ([[FREE, FREE], [FREE, (0, 3)]], 1, 1),
            ([[FREE, (3, 3)], [(1, 1), (0, 0)]], 0, 1),
            ([[FREE, FREE], [(1, 1), (0, 0)]], 1, 0),
        ):
            with self.subTest(bounds=bounds):
                self.refused(book, lambda: book.put("other", ROWS, bounds=bounds), Outside, row=row, column=column)

    def test_their_order(self):
        wrong, outside = [[(2, 1)]], [[(0, 0)]]
        book = book_with(most=2)
        self.refused(book, lambda: book.put("9", [], bounds=wrong), BadName)
        self.refused(book, lambda: book.put("first", [], bounds=wrong), Taken, name="first")
        self.refused(book, lambda: book.put("other", [[41]], bounds=wrong), BadTable)
        self.refused(book, lambda: book.put("other", [[1], [1]], bounds=outside), BadBounds)
        self.refused(book, lambda: book.put("other", [[1]], bounds=outside), Outside, row=0, column=0)
        book.put("second", [[1]])
        self.refused(book, lambda: book.put("A", [], bounds=wrong), BadName)
        self.refused(book, lambda: book.put("first", [], bounds=wrong), Taken, name="first")
        self.refused(book, lambda: book.put("other", [], bounds=wrong), Full)

    def test_what_is_handed_in_changed_afterwards(self):
        rows, bounds = copy.deepcopy(ROWS), copy.deepcopy(BOUNDS)
        book = book_with(rows, bounds)
        self.assertEqual((rows, bounds), (ROWS, BOUNDS))
        rows[0][0] = 9
        rows.pop()
        bounds[0][0] = (0, 0)
        bounds.pop()
        self.assertEqual(state_of(book), {"first": (ROWS, BOUNDS)})


class Come(Refusing):
    def test_more_fewer_and_none(self):
        book = book_with()
        self.assertIsNone(book.come("first", 0, 0))
        self.assertEqual(book.table("first").cells(), [[2, 2], [0, 4]])
        book.come("first", 1, 1, many=-4)
        self.assertEqual(book.table("first").cells(), [[2, 2], [0, 0]])
        book.come("first", 1, 0, many=36)
        self.assertEqual(book.table("first").cells(), [[2, 2], [36, 0]])
        book.come("first", 0, 1, many=0)
        self.assertEqual(book.table("first").cells(), [[2, 2], [36, 0]])
        self.assertEqual(book.depth(), (5, 0))

    def test_bounds_stay(self):
        book = book_with(bounds=BOUNDS)
        book.come("first", 0, 1)
        self.assertEqual(state_of(book), {"first": ([[1, 3], [0, 4]], BOUNDS)})

    def test_refusals(self):
        book = book_with(bounds=BOUNDS)
        for name in ("second", "", "First"):
            self.refused(book, lambda: book.come(name, 9, 9, many=99), Unknown, name=name)
        for row, column in ((-1, 0), (0, -1), (2, 0), (0, 2), (9, 9)):
            self.refused(book, lambda: book.come("first", row, column, many=99), BadCell)
        for row, column, many in ((0, 0, -2), (0, 1, 2), (0, 1, -2), (1, 0, 1), (1, 0, -1), (1, 1, 37), (0, 0, 999)):
            self.refused(book, lambda: book.come("first", row, column, many=many), Outside, row=row, column=column)
        for row, column, many in ((0, 0, 34), (0, 0, 39), (1, 1, 36)):
            self.refused(book, lambda: book.come("first", row, column, many=many), TooMany)
        book.come("first", 0, 0, many=33)
        self.refused(book, lambda: book.come("first", 1, 1), TooMany)
        book.come("first", 1, 1, many=0)


class Unite(Refusing):
    ROWS = [[1, 2, 3], [0, 4, 1], [5, 0, 0]]
    BOUNDS = [[(0, 1), (1, 40), FREE], [(0, 2), (2, 30), (1, 1)], [(5, 5), (0, 0), FREE]]

    def test_rows(self):
        book = book_with(self.ROWS, self.BOUNDS)
        self.assertIsNone(book.unite("first", 2, 0))
        self.assertEqual(state_of(book), {"first": (
            [[0, 4, 1], [6, 2, 3]], [[(0, 2), (2, 30), (1, 1)], [(5, 6), (1, 40), FREE]],
        )})

    def test_columns(self):
        book = book_with(self.ROWS, self.BOUNDS)
        self.assertIsNone(book.unite("first", 0, 1, rows=False))
        self.assertEqual(state_of(book), {"first": (
            [[3, 3], [4, 1], [5, 0]], [[(1, 40), FREE], [(2, 32), (1, 1)], [(5, 5), FREE]],
        )})

    def test_columns_of_a_table_of_six(self):
        book = book_with([[1, 2, 3, 4, 5, 6]])
        book.unite("first", 5, 0, rows=False)
        self.assertEqual(book.table("first").cells(), [[2, 3, 4, 5, 7]])

    def test_refusals(self):
        book = book_with([[1, 2, 3], [0, 4, 1]])
        self.refused(book, lambda: book.unite("second", 0, 0), Unknown, name="second")
        for one, other in ((0, 0), (1, 1), (0, 2), (2, 0), (-1, 0), (0, -1), (7, 7)):
            self.refused(book, lambda: book.unite("first", one, other), BadCell)
        for one, other in ((0, 0), (2, 2), (0, 3), (3, 0), (-1, 0), (0, -1)):
            self.refused(book, lambda: book.unite("first", one, other, rows=False), BadCell)


class PartOut(Refusing):
    BOUNDS = [[(1, 5), FREE], [(0, 0), (2, 9)]]

    def test_rows(self):
        book = book_with(bounds=self.BOUNDS)
        self.assertIsNone(book.part_out("first", 0, [1, 1]))
        self.assertEqual(state_of(book), {"first": (
            [[0, 1], [1, 1], [0, 4]], [[(0, 5), FREE], [(0, 5), FREE], [(0, 0), (2, 9)]],
        )})

    def test_columns(self):
        book = book_with(bounds=self.BOUNDS)
        self.assertIsNone(book.part_out("first", 1, [2, 1], rows=False))
        self.assertEqual(state_of(book), {"first": (
            [[1, 0, 2], [0, 3, 1]], [[(1, 5), FREE, FREE], [(0, 0), (0, 9), (0, 9)]],
        )})

    def test_the_two_rows_have_bounds_of_their_own(self):
        book = book_with()
        book.part_out("first", 0, [0, 1])
        book.bar("first", 0, 0, low=1, high=1)
        self.assertEqual(book.bounds("first"), [[(1, 1), FREE], [FREE, FREE], [FREE, FREE]])

    def test_counts_handed_in_changed_afterwards(self):
        taken, book = [1, 1], book_with()
        book.part_out("first", 0, taken)
        self.assertEqual(taken, [1, 1])
        taken[0] = 9
        taken.pop()
        self.assertEqual(book.table("first").cells(), [[0, 1], [1, 1], [0, 4]])

    def test_refusals(self):
        book = book_with()
        self.refused(book, lambda: book.part_out("second", 9, []), Unknown, name="second")
        for by_rows in (True, False):
            for one in (-1, 2, 9):
                self.refused(book, lambda: book.part_out("first", one, [], rows=by_rows), BadCell)
            for taken in ([], [0], [0, 0, 0], [-1, 0], [0, -1], [9, 0], [0, 9]):
                self.refused(book, lambda: book.part_out("first", 0, taken, rows=by_rows), BadTable)

    def test_too_many_rows_and_columns(self):
        book = book_with([[1] * 6] * 4)
        self.refused(book, lambda: book.part_out("first", 0, [0] * 6), BadTable)
        self.refused(book, lambda: book.part_out("first", 0, [0] * 4, rows=False), BadTable)
        self.refused(book, lambda: book.part_out("first", 4, [0] * 6), BadCell)


class Turn(Refusing):
    def test_table_and_bounds(self):
        book = book_with([[1, 2, 3, 4], [0, 0, 0, 5]], [[FREE, (1, 3), FREE, FREE], [(0, 0), FREE, FREE, (5, 6)]])
        self.assertIsNone(book.turn("first"))
        self.assertEqual(state_of(book), {"first": (
            [[1, 0], [2, 0], [3, 0], [4, 5]], [[FREE, (0, 0)], [(1, 3), FREE], [FREE, FREE], [FREE, (5, 6)]],
        )})

    def test_refusals(self):
        book = book_with([[1, 2, 3, 4, 5]])
        book.put("second", [[1, 2, 3, 4, 5, 6], [0] * 6])
        self.refused(book, lambda: book.turn("third"), Unknown, name="third")
        self.refused(book, lambda: book.turn("first"), BadTable)
        self.refused(book, lambda: book.turn("second"), BadTable)


class Drop(Refusing):
    def test_gone_and_free_to_be_put_again(self):
        book = book_with()
        self.assertIsNone(book.drop("first"))
        self.assertEqual((book.names(), len(book)), ([], 0))
        book.put("first", [[7]])
        self.assertEqual(book.table("first").cells(), [[7]])

    def test_refusals(self):
        book = book_with()
        for name in ("second", "", "FIRST"):
            self.refused(book, lambda: book.drop(name), Unknown, name=name)


class Bar(Refusing):
    def test_other_bounds(self):
        book = book_with()
        self.assertIsNone(book.bar("first", 1, 0))
        self.assertEqual(state_of(book), {"first": (ROWS, [[FREE, FREE], [(0, 0), FREE]])})
        book.bar("first", 0, 1, low=1, high=3)
        book.bar("first", 1, 1, high=4)
        self.assertEqual(book.bounds("first"), [[FREE, (1, 3)], [(0, 0), (0, 4)]])
        book.bar("first", 1, 0, low=0, high=40)
        self.assertEqual(book.bounds("first"), [[FREE, (1, 3)], [FREE, (0, 4)]])

    def test_refusals(self):
        book = book_with(bounds=BOUNDS)
        self.refused(book, lambda: book.bar("second", 9, 9, low=5, high=4), Unknown, name="second")
        for row, column in ((-1, 0), (0, -1), (2, 0), (0, 2)):
            self.refused(book, lambda: book.bar("first", row, column, low=5, high=4), BadCell)
        for low, high in ((5, 4), (-1, 5), (0, 41), (41, 41), (-2, -1), (3, 0)):
            self.refused(book, lambda: book.bar("first", 0, 0, low=low, high=high), BadBounds)
        self.refused(book, lambda: book.bar("first", 0, 0, low=2), BadBounds)
        for row, column, low, high in ((0, 0, 0, 0), (0, 0, 2, 40), (0, 1, 0, 1), (0, 1, 3, 3), (1, 0, 1, 1)):
            self.refused(
                book, lambda: book.bar("first", row, column, low=low, high=high), Outside, row=row, column=column)
        self.refused(book, lambda: book.bar("first", 0, 1), Outside, row=0, column=1)


class Drawn(Refusing):
    def test_long_rows_of_deeds_of_all_kinds(self):
        seen = {}
        for seed in range(25):
            chance = random.Random(seed)
            most = chance.choice([2, 3, 8])
            book, state = Book(most=most), {}
            for at in range(150):
                deed = drawn_deed(chance, state)
                handed = copy.deepcopy(deed)
                with self.subTest(seed=seed, at=at, deed=deed):
                    try:
                        state = behind(state, most, deed)
                        word, fields = "done", {}
                        self.assertIsNone(do(book, handed))
                    except No as refusal:
                        word, fields = refusal.told
                        self.refused(book, lambda: do(book, handed), self.error_of(word), **fields)
                    self.assertEqual(handed, deed)
                    self.assertEqual(state_of(book), state)
                    self.assertEqual((len(book), book.names()), (len(state), sorted(state)))
                seen[deed[0], word] = seen.get((deed[0], word), 0) + 1
        for word, outcomes in (
            ("put", "done name taken full table bounds outside"), ("come", "done unknown cell outside many"),
            ("unite", "done unknown cell"), ("part_out", "done unknown cell table"), ("turn", "done unknown table"),
            ("drop", "done unknown"), ("bar", "done unknown cell bounds outside"),
        ):
            self.assertEqual([outcome for outcome in outcomes.split() if (word, outcome) not in seen], [])

    def error_of(self, word):
        found = {
            "name": BadName, "taken": Taken, "full": Full, "table": BadTable, "bounds": BadBounds,
            "outside": Outside, "unknown": Unknown, "cell": BadCell, "many": TooMany,
        }[word]
        self.assertTrue(issubclass(found, errors.EdgeError))
        return found


class Told(unittest.TestCase):
    def test_told_lists_changed_and_asked_again(self):
        book = book_with(bounds=BOUNDS)
        names, bounds, cells = book.names(), book.bounds("first"), book.table("first").cells()
        names.append("x")
        bounds[0][0] = 9
        bounds.pop()
        cells[0][0] = 9
        self.assertEqual(book.names(), ["first"])
        self.assertEqual(state_of(book), {"first": (ROWS, BOUNDS)})
        book.come("first", 0, 0)
        book.undo()
        self.assertEqual(state_of(book), {"first": (ROWS, BOUNDS)})

    def test_a_told_table_stays(self):
        book = book_with()
        table = book.table("first")
        book.come("first", 0, 0)
        book.turn("first")
        self.assertEqual(table, Table(ROWS))


if __name__ == "__main__":
    unittest.main()
