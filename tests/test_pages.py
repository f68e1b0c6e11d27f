import random
import unittest

from edgetally.book import Book
from edgetally.bounds import FREE
from edgetally.errors import BadPage, EdgeError
from edgetally.pages import page, read_page
from ledger import do, drawn_deed, state_of

WHOLE = """edgetally 2
table a1
row 1 2
row 0 4
hold 0 1 1 3
hold 1 0 0 0
table b
row 40
hold 0 0 40 40"""


def drawn_books(seed, many):
    for drawn in range(many):
        chance = random.Random(seed + drawn)
        book = Book()
        for at in range(chance.choice([0, 3, 10, 40])):
            try:
                do(book, drawn_deed(chance, state_of(book)))
            except EdgeError:
                pass
        yield book


class Page(unittest.TestCase):
    def test_the_whole_text(self):
        book = Book()
        book.put("b", [[40]], bounds=[[(40, 40)]])
        book.put("a1", [[1, 2], [0, 4]], bounds=[[FREE, (1, 3)], [(0, 0), FREE]])
        self.assertEqual(page(book), WHOLE)

    def test_no_table_and_one(self):
        book = Book()
        self.assertEqual(page(book), "edgetally 0")
        book.put("x", [[1, 0, 2], [3, 10, 0]])
        self.assertEqual(page(book), "edgetally 1\ntable x\nrow 1 0 2\nrow 3 10 0")

    def test_bounds_that_are_free_are_not_written(self):
        book = Book()
        book.put("x", [[1, 2]], bounds=[[(0, 40), (0, 39)]])
        self.assertEqual(page(book), "edgetally 1\ntable x\nrow 1 2\nhold 0 1 0 39")
        book.bar("x", 0, 1, low=1, high=40)
        self.assertEqual(page(book), "edgetally 1\ntable x\nrow 1 2\nhold 0 1 1 40")
        book.bar("x", 0, 1, low=0, high=40)
        self.assertEqual(page(book), "edgetally 1\ntable x\nrow 1 2")

    def test_tables_by_rising_name(self):
        book = Book()
        for name in ("b", "a", "c10", "c9", "aa"):
            book.put(name, [[1]])
        lines = page(book).split("\n")
        self.assertEqual(lines[0], "edgetally 5")
        self.assertEqual(lines[1::2], ["table a", "table aa", "table b", "table c10", "table c9"])

    def test_a_page_changes_no_book(self):
        for book in drawn_books(10, 10):
            ahead = state_of(book), book.depth()
            self.assertEqual(page(book), page(book))
            self.assertEqual((state_of(book), book.depth()), ahead)


class ReadBack(unittest.TestCase):
    def test_equal_and_without_steps(self):
        tables = 0
        for book in drawn_books(50, 80):
            text = page(book)
            with self.subTest(text=text):
                told = read_page(text)
                self.assertIsInstance(told, Book)
                self.assertTrue(told == book)
                self.assertEqual(state_of(told), state_of(book))
                self.assertEqual(told.depth(), (0, 0))
                self.assertEqual(page(told), text)
                tables += len(book)
        self.assertGreater(tables, 50)

    def test_with_room_for_eight_tables(self):
        book = Book(most=1)
        book.put("x", [[1]])
        told = read_page(page(book))
        for at in range(7):
            told.put(f"t{at}", [[at]])
        self.assertEqual(len(told), 8)
        with self.assertRaises(EdgeError) as caught:
            told.put("more", [[1]])
        self.assertEqual(caught.exception.word, "full")
        self.assertTrue(read_page(page(told)) == told)

    def test_the_whole_text(self):
        self.assertEqual(state_of(read_page(WHOLE)), {
            "a1": ([[1, 2], [0, 4]], [[FREE, (1, 3)], [(0, 0), FREE]]), "b": ([[40]], [[(40, 40)]]),
        })
        self.assertEqual(len(read_page("edgetally 0")), 0)

    def test_two_readings_go_their_own_ways(self):
        one, other = read_page(WHOLE), read_page(WHOLE)
        one.drop("b")
        self.assertEqual(page(other), WHOLE)


class NoPage(unittest.TestCase):
    def refused(self, text):
        with self.subTest(text=text):
            with self.assertRaises(BadPage) as caught:
                read_page(text)
            self.assertIsInstance(caught.exception, EdgeError)

    def test_the_empty_text_and_other_words(self):
        for text in (
            "", " ", "\n", "edgetally", "edgetally ", "0", "edgetally -1", "edgetally -0", "edgetally 00", "edgetally 1",
            "edgetally 0 0", "Edgetally 0", "edgetally  0", " edgetally 0", "edgetally 0 ", "edgetally 0\n", "\nedgetally 0",
            "edgetally 0\n\n", "edgetally x", "edgetally 0x0", "edgetally +0", "edgetally 0\ntable", "page 0", "%", "\u00e9",
            "edgetally 0\nrow 1", "edgetally 0\nhold 0 0 0 0", "edgetally 1\nrow 1", "edgetally 1\ntable x",
            "edgetally 1\ntable x\nhold 0 0 0 1", "edgetally 1\nrow 1\ntable x", "edgetally " + "9" * 5000,
        ):
            self.refused(text)

    def test_another_number_of_tables(self):
        for many in ("0", "1", "3", "02", "+2", "-2", "2.0", "two", "", " 2", "9"):
            self.refused(WHOLE.replace("edgetally 2", f"edgetally {many}"))

    def test_a_number_written_otherwise(self):
        for one, other in (
            ("row 1 2", "row 01 2"), ("row 1 2", "row +1 2"), ("row 0 4", "row -0 4"), ("row 0 4", "row 00 4"),
            ("row 0 4", "row 0 4.0"), ("row 0 4", "row 0 four"), ("row 40", "row 4_0"), ("row 1 2", "row 1 \u0662"),
            ("hold 0 1 1 3", "hold 00 1 1 3"), ("hold 0 1 1 3", "hold 0 1 1 03"), ("hold 0 1 1 3", "hold 0 1 +1 3"),
            ("hold 1 0 0 0", "hold 1 0 0 -0"), ("hold 1 0 0 0", "hold 1 0 -0 0"), ("row 40", "row " + "9" * 5000),
            ("row 1 2", "row 1e0 2"), ("row 1 2", "row 1 2,"), ("row 1 2", "row 1\t2"), ("row 1 2", "row 10000 2"),
        ):
            self.refused(WHOLE.replace(one, other, 1))

    def test_a_blank_or_a_line_feed_more_or_less(self):
        for at in range(len(WHOLE) + 1):
            for sign in (" ", "\n", "\r", "\t"):
                self.refused(WHOLE[:at] + sign + WHOLE[at:])
            if WHOLE[at:at + 1] in (" ", "\n"):
                self.refused(WHOLE[:at] + WHOLE[at + 1:])

    def test_lines_left_out_twice_or_out_of_order(self):
        lines = WHOLE.split("\n")
        # A row or a hold of some table can be left out: what is left is the page of another book.
        lets = {"row 1 2": False, "row 0 4": False, "hold 0 1 1 3": True, "hold 1 0 0 0": True, "hold 0 0 40 40": True}
        for at, line in enumerate(lines):
            shorter = "\n".join(lines[:at] + lines[at + 1:])
            if lets.get(line):
                self.assertEqual(page(read_page(shorter)), shorter)
            else:
                self.refused(shorter)
            if line not in ("row 1 2", "row 0 4", "row 40"):
                self.refused("\n".join(lines[:at + 1] + lines[at:]))
            for other in range(at + 1, len(lines)):
                moved = list(lines)
                moved[at], moved[other] = moved[other], moved[at]
                if "\n".join(moved) != "\n".join(lines):
                    self.check_moved("\n".join(moved))

    def check_moved(self, text):
        """Two lines changed about: no page, or (two rows) that of another book."""
        try:
            book = read_page(text)
        except BadPage:
            return
        self.assertEqual(page(book), text)

    def test_holds_out_of_order_amid_rows_or_of_no_cell(self):
        for one, other in (
            ("hold 0 1 1 3\nhold 1 0 0 0", "hold 1 0 0 0\nhold 0 1 1 3"),
            ("row 0 4\nhold 0 1 1 3", "hold 0 1 1 3\nrow 0 4"),
            ("hold 0 1 1 3", "hold 0 1 1 3\nhold 0 1 1 3"),
            ("hold 0 1 1 3", "hold 0 1 1 2\nhold 0 1 1 3"),
            ("hold 1 0 0 0", "hold 2 0 0 0"), ("hold 1 0 0 0", "hold 1 2 0 0"), ("hold 1 0 0 0", "hold -1 0 0 0"),
            ("hold 1 0 0 0", "hold 1 -2 0 0"), ("hold 1 0 0 0", "hold 1 0 0"), ("hold 1 0 0 0", "hold 1 0 0 0 0"),
            ("hold 1 0 0 0", "hold"), ("hold 1 0 0 0", "hold 1 0 0 41"), ("hold 1 0 0 0", "hold 1 0 -1 0"),
            ("hold 0 1 1 3", "hold 0 1 3 1"), ("hold 1 0 0 0", "Hold 1 0 0 0"), ("hold 1 0 0 0", "hold  1 0 0 0"),
        ):
            self.assertIn(one, WHOLE)
            self.refused(WHOLE.replace(one, other))

    def test_a_hold_of_a_free_cell(self):
        self.refused(WHOLE.replace("hold 0 1 1 3", "hold 0 0 0 40\nhold 0 1 1 3"))
        self.refused("edgetally 1\ntable x\nrow 1\nhold 0 0 0 40")

    def test_a_count_that_breaks_its_hold(self):
        for hold in ("hold 0 1 1 1", "hold 0 1 3 9", "hold 0 1 0 0"):
            self.refused(WHOLE.replace("hold 0 1 1 3", hold))
        self.refused(WHOLE.replace("row 1 2", "row 1 4"))

    def test_names(self):
        for name in ("", "9", "A", "a b", "b ", "c", "a" * 13, "b", "a1 ", "z"):
            self.refused(WHOLE.replace("table a1", f"table {name}"))
        for name in ("a1", "a", "", "0b", "B", "b b", "b/"):
            self.refused(WHOLE.replace("table b", f"table {name}"))
        self.assertEqual(read_page(WHOLE.replace("table b", "table a2")).names(), ["a1", "a2"])

    def test_rows_that_are_no_table(self):
        for rows in (
            "row", "row ", "row -1", "row 41", "row 1 2\nrow 3", "row 0 0 0 0 0 0 0", "\n".join(["row 0"] * 5),
            "row 20 20\nrow 0 1", "rows 1", "row / 1", "row 1 / 2", "row 1\nrow", "row 1\n", "Row 1",
        ):
            self.refused(f"edgetally 1\ntable x\n{rows}")

    def test_nine_tables(self):
        tables = [f"table t{at}\nrow {at}" for at in range(9)]
        self.refused("\n".join(["edgetally 9"] + tables))
        self.assertEqual(len(read_page("\n".join(["edgetally 8"] + tables[:8]))), 8)

    def test_every_sign_changed(self):
        for at in range(len(WHOLE)):
            for sign in "0159 -/abt\n":
                text = WHOLE[:at] + sign + WHOLE[at + 1:]
                try:
                    book = read_page(text)
                except BadPage:
                    continue
                self.assertEqual(page(book), text)


if __name__ == "__main__":
    unittest.main()
