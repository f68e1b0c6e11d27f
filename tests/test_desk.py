import unittest

from edgetally import errors
from edgetally.book import Book
from edgetally.bounds import FREE
from edgetally.desk import Desk
from edgetally.errors import EdgeError
from edgetally.measures import KINDS
from ledger import state_of


class Telling(unittest.TestCase):
    def setUp(self):
        self.book = Book(most=3)
        self.desk = Desk(self.book)

    def tells(self, line, answer):
        with self.subTest(line=line):
            told = self.desk.tell(line)
            self.assertIs(type(told), str)
            self.assertEqual(told, answer)

    def refused(self, line, answer):
        """The line is answered so, and the book behind it is as it was."""
        ahead = state_of(self.book), self.book.depth()
        self.tells(line, answer)
        self.assertEqual((state_of(self.book), self.book.depth()), ahead)


class Lines(Telling):
    def test_put(self):
        self.tells("put a 1 2 / 0 4", "ok")
        self.tells("put b 7", "ok")
        self.tells("put c 1 / 2 / 3 / 4", "ok")
        free = [[FREE, FREE], [FREE, FREE]]
        self.assertEqual(state_of(self.book), {
            "a": ([[1, 2], [0, 4]], free), "b": ([[7]], [[FREE]]), "c": ([[1], [2], [3], [4]], [[FREE]] * 4),
        })
        self.assertEqual(self.book.depth(), (3, 0))

    def test_come(self):
        self.tells("put a 1 2 / 0 4", "ok")
        self.tells("come a 1 0 5", "ok")
        self.assertEqual(self.book.table("a").cells(), [[1, 2], [5, 4]])
        self.tells("come a 0 1 -2", "ok")
        self.tells("come a 0 0 0", "ok")
        self.assertEqual(self.book.table("a").cells(), [[1, 0], [5, 4]])
        self.assertEqual(self.book.depth(), (4, 0))

    def test_turn_drop_and_bar(self):
        self.tells("put a 1 2 / 0 4", "ok")
        self.tells("bar a 0 1 1 3", "ok")
        self.tells("turn a", "ok")
        self.assertEqual(state_of(self.book), {"a": ([[1, 0], [2, 4]], [[FREE, FREE], [(1, 3), FREE]])})
        self.tells("drop a", "ok")
        self.assertEqual(self.book.names(), [])

    def test_undo_and_redo(self):
        self.tells("put a 1", "ok")
        self.tells("come a 0 0 1", "ok")
        self.tells("undo", "ok")
        self.tells("show a", "1")
        self.tells("redo", "ok")
        self.tells("show a", "2")
        self.assertEqual(self.book.depth(), (2, 0))

    def test_show(self):
        self.tells("put a 1 2 / 0 4", "ok")
        self.tells("put b 10", "ok")
        self.tells("show a", "1 2 / 0 4")
        self.tells("show b", "10")
        self.tells("show a", str(self.book.table("a")))

    def test_share(self):
        self.tells("put a 1 1 / 0 1", "ok")
        self.tells("share a rare", "1/1")
        self.tells("share a most", "2/3")
        self.tells("put b 3 0 / 0 3", "ok")
        for kind in KINDS:
            top, under = self.book.share("b", kind, place=(0, 0), side="beyond")
            self.tells(f"share b {kind}", f"{top}/{under}")
        self.tells("share b most", "1/20")
        self.tells("share b least", "1/1")

    def test_names(self):
        self.tells("names", "-")
        self.tells("put b 1", "ok")
        self.tells("names", "b")
        self.tells("put a 1", "ok")
        self.tells("put c 1", "ok")
        self.tells("names", "a b c")
        for name in "abc":
            self.tells(f"drop {name}", "ok")
        self.tells("names", "-")


class Refusals(Telling):
    def setUp(self):
        Telling.setUp(self)
        self.desk.tell("put a 1 2 / 0 4")
        self.desk.tell("put six 1 2 3 4 5 6")
        self.desk.tell("bar a 0 1 1 3")

    def test_put(self):
        for name in ("", "9", "A", "a" * 13, "a-b", "/"):
            self.refused(f"put {name} 1 / 2 3", "no name")
        self.refused("put a 41", "no taken")
        for rows in ("41", "-1", "1 / 2 3", "1 2 / 3", "0 0 0 0 0 0 0", "1 / 1 / 1 / 1 / 1", "9999", "-9999", "20 / 21"):
            self.refused(f"put b {rows}", "no table")
        self.desk.tell("put c 1")
        self.refused("put b 41", "no full")
        self.refused("put a 41", "no taken")
        self.refused("put B 41", "no name")

    def test_come(self):
        self.refused("come b 9 9 9", "no unknown")
        self.refused("come  0 0 1", "no unknown")
        for row, column in ((2, 0), (0, 2), (-1, 0), (0, -1), (9999, -9999)):
            self.refused(f"come a {row} {column} 1", "no cell")
        for place, many in (("0 0", -2), ("0 1", 2), ("0 1", -2), ("1 1", 37), ("0 0", 9999), ("0 0", -9999)):
            self.refused(f"come a {place} {many}", "no outside")
        self.refused("come a 0 0 34", "no many")

    def test_turn_and_drop(self):
        self.refused("turn b", "no unknown")
        self.refused("turn six", "no table")
        self.refused("drop b", "no unknown")
        self.refused("drop ", "no unknown")

    def test_bar(self):
        self.refused("bar b 9 9 9 1", "no unknown")
        self.refused("bar a 2 0 9 1", "no cell")
        self.refused("bar a 0 -1 9 1", "no cell")
        for low, high in ((2, 1), (-1, 5), (0, 41), (9999, 9999)):
            self.refused(f"bar a 0 0 {low} {high}", "no bounds")
        self.refused("bar a 0 0 2 5", "no outside")
        self.refused("bar a 0 1 0 1", "no outside")

    def test_undo_and_redo(self):
        self.refused("redo", "no nothing")
        for step in range(3):
            self.tells("undo", "ok")
        self.refused("undo", "no nothing")

    def test_show_and_share(self):
        self.refused("show b", "no unknown")
        self.refused("show ", "no unknown")
        self.refused("share b none", "no unknown")
        self.refused("share a none", "no rule")
        self.refused("share a ", "no rule")
        self.refused("share a beyond", "no rule")
        self.desk.tell("put wide 10 / 10 / 5")
        self.refused("share wide none", "no wide")
        self.refused("share wide rare", "no wide")


class NoLine(Telling):
    def setUp(self):
        Telling.setUp(self)
        self.desk.tell("put a 1 2 / 0 4")
        self.desk.tell("come a 0 0 1")
        self.desk.tell("undo")

    def test_another_first_word(self):
        for line in (
            "", " ", "  ", "a", "Put b 1", "puts b 1", " put b 1", "unite a 0 1", "part_out a 0 1 1", "settle", "run",
            "depth", "net a", "mean a 0 0", "bounds a", "number a", "look a rare", "twin", "page", "no", "ok", "/", "-",
            "0", "undo,", "PUT b 1", "\tnames", "told",
        ):
            self.refused(line, "no line")

    def test_too_many_or_too_few_words(self):
        for line in (
            "put", "put b", "put ", "come", "come a", "come a 0", "come a 0 0", "come a 0 0 1 1", "turn", "turn a a",
            "turn a 1", "drop", "drop a a", "bar", "bar a", "bar a 0 0", "bar a 0 0 0", "bar a 0 0 0 9 9", "undo undo",
            "undo 1", "redo 1", "show", "show a a", "share", "share a", "share a rare beyond", "share a most 0 0",
            "names a", "names names",
        ):
            self.refused(line, "no line")

    def test_an_empty_word_is_a_word_and_no_number(self):
        for line in (
            "undo ", " undo", "redo ", "names ", "turn a ", "turn  a", "drop a ", "drop  a", "show a ", "show  a",
            "share a rare ", "share  a rare", "come a 0 0 ", "come a  0 0", "come a 0 0 1 ", "come a  0 1", "bar a 0 0 0 ",
            "put b ", "put b  1", "put b 1 ", "put b 1  2", "put b 1 /  2", "put b 1  / 2", "put  ", "put  1 ",
        ):
            self.refused(line, "no line")

    def test_numbers_written_otherwise(self):
        for word in (
            "01", "+1", "-0", "00", "-01", "1.0", "1e1", "0x1", "one", "1_0", "--1", "-", "1-", "10000", "-10000", "99999",
            "9" * 5000, "-" + "9" * 5000, "\u0661", "1,", "(1)", "1/2", "1/", "\u00b2", "1\n", "\t1",
        ):
            for line in (
                f"put b {word}", f"put b 1 {word}", f"put b 1 / {word} / 2", f"come a {word} 0 1", f"come a 0 {word} 1",
                f"come a 0 0 {word}", f"bar a {word} 0 0 9", f"bar a 0 {word} 0 9", f"bar a 0 0 {word} 9",
                f"bar a 0 0 0 {word}",
            ):
                self.refused(line, "no line")

    def test_a_slash_first_last_or_twice(self):
        for counts in ("/", "/ 1", "1 /", "/ 1 /", "1 / / 2", "1 / 2 /", "/ /", "1 / / / 2", "1 // 2", "1 2/ 3", "1 /2"):
            self.refused(f"put b {counts}", "no line")
        self.refused("put /", "no line")
        self.refused("put / /", "no line")

    def test_ahead_of_any_other_refusal(self):
        for line in (
            "put 9 x", "put a 1 /", "put a 41 -0", "come b 0 0 x", "come b 9 9 10000", "come a 9 9 99999", "turn b b",
            "drop b 1", "bar b 0 0 x 0", "bar a 9 9 9 x", "show b b", "share b none none", "come b 0 0",
        ):
            self.refused(line, "no line")
        self.desk.tell("drop a")
        self.refused("redo now", "no line")


class Words(Telling):
    # A line that is refused with each word that a desk can answer by, and what is told ahead of it.
    ASKED = {
        "table": (["put a 41"], errors.BadTable),
        "bounds": (["put a 1", "bar a 0 0 2 1"], errors.BadBounds),
        "wide": (["put a 10 / 10 / 5", "share a rare"], errors.TooWide),
        "rule": (["put a 1", "share a none"], errors.BadRule),
        "cell": (["put a 1", "come a 1 0 1"], errors.BadCell),
        "name": (["put A 1"], errors.BadName),
        "taken": (["put a 1", "put a 1"], errors.Taken),
        "full": (["put a 1", "put b 1", "put c 1", "put d 1"], errors.Full),
        "unknown": (["show a"], errors.Unknown),
        "outside": (["put a 1", "come a 0 0 -2"], errors.Outside),
        "many": (["put a 20 20", "come a 0 0 1"], errors.TooMany),
        "nothing": (["undo"], errors.Nothing),
    }

    def test_each_word(self):
        for word, (lines, error) in self.ASKED.items():
            desk = Desk(Book(most=3))
            answers = [desk.tell(line) for line in lines]
            self.assertEqual(answers, ["ok"] * (len(lines) - 1) + [f"no {word}"])
            self.assertTrue(issubclass(error, EdgeError))


class Told(Telling):
    def test_all_lines_in_order(self):
        self.assertEqual(self.desk.told(), [])
        lines = ["put a 1 2", "", "show a", "share a none", "come a 0 0", "names", "names", "undo", "undo"]
        answers = [self.desk.tell(line) for line in lines]
        self.assertEqual(answers, ["ok", "no line", "1 2", "no rule", "no line", "a", "a", "ok", "no nothing"])
        self.assertEqual(self.desk.told(), list(zip(lines, answers)))
        self.assertIs(type(self.desk.told()), list)
        self.assertTrue(all(type(pair) is tuple for pair in self.desk.told()))

    def test_the_told_list_changed(self):
        self.desk.tell("names")
        told = self.desk.told()
        told.append(9)
        told[0] = 9
        self.assertEqual(self.desk.told(), [("names", "-")])
        self.desk.tell("undo")
        self.assertEqual(self.desk.told(), [("names", "-"), ("undo", "no nothing")])

    def test_two_desks_on_one_book(self):
        other = Desk(self.book)
        self.tells("put a 1", "ok")
        self.assertEqual(other.tell("show a"), "1")
        self.assertEqual(other.tell("come a 0 0 1"), "ok")
        self.tells("show a", "2")
        self.tells("undo", "ok")
        self.assertEqual(other.tell("show a"), "1")
        self.assertEqual(self.desk.told(), [("put a 1", "ok"), ("show a", "2"), ("undo", "ok")])
        self.assertEqual(other.told(), [("show a", "1"), ("come a 0 0 1", "ok"), ("show a", "1")])

    def test_the_very_book(self):
        self.book.put("x", [[5]])
        self.tells("show x", "5")
        self.tells("drop x", "ok")
        self.assertEqual(self.book.names(), [])
        self.book.undo()
        self.tells("names", "x")


if __name__ == "__main__":
    unittest.main()
