import copy
import random
import unittest

from edgetally.book import Book
from edgetally.bounds import FREE
from edgetally.errors import (
    BadBounds,
    BadCell,
    BadName,
    BadRule,
    BadTable,
    EdgeError,
    Full,
    Nothing,
    Outside,
    Taken,
    TooMany,
    Unknown,
)
from ledger import No, behind, do, drawn_deed, fields_of, state_of

ROWS = [[1, 2], [0, 4]]
BEGUN = [
    ("put", "first", ROWS),
    ("come", "first", 0, 0, 2),
    ("part_out", "first", 1, [0, 1], True),
    ("unite", "first", 0, 2, True),
    ("turn", "first"),
    ("bar", "first", 0, 1, 0, 5),
    ("put", "second", [[7]]),
    ("drop", "second"),
]


class States:
    """All states that a book has gone through, and which one it stands at."""

    def __init__(self):
        self.all, self.at = [{}], 0

    def now(self):
        return self.all[self.at]

    def step(self, state):
        self.all, self.at = self.all[:self.at + 1] + [state], self.at + 1

    def depth(self):
        return (self.at, len(self.all) - 1 - self.at)


class Kept(unittest.TestCase):
    def same(self, book, states):
        self.assertEqual(state_of(book), states.now())
        self.assertEqual(book.depth(), states.depth())

    def gone_through(self, book, states):
        """All steps back and all steps forth again, each as it was."""
        twin = book.twin()
        for at in reversed(range(states.at)):
            self.assertIsNone(twin.undo())
            self.assertEqual(state_of(twin), states.all[at])
        with self.assertRaises(Nothing):
            twin.undo()
        for at in range(1, len(states.all)):
            self.assertIsNone(twin.redo())
            self.assertEqual(state_of(twin), states.all[at])
        with self.assertRaises(Nothing):
            twin.redo()


class UndoRedo(Kept):
    def test_nothing_to_undo_or_redo(self):
        book = Book()
        for deed in (book.undo, book.redo, book.undo):
            with self.assertRaises(Nothing) as caught:
                deed()
            self.assertIsInstance(caught.exception, EdgeError)
            self.assertEqual((book.depth(), book.names()), ((0, 0), []))
        book.put("first", ROWS)
        with self.assertRaises(Nothing):
            book.redo()
        self.assertEqual((book.depth(), book.names()), ((1, 0), ["first"]))

    def test_each_deed_is_one_step(self):
        book, states = Book(), States()
        for deed in BEGUN:
            do(book, deed)
            states.step(behind(states.now(), 8, deed))
            self.same(book, states)
        self.gone_through(book, states)
        self.assertEqual(book.depth(), (8, 0))

    def test_a_deed_that_changes_nothing_is_a_step(self):
        book = Book()
        book.put("first", ROWS)
        book.come("first", 0, 0, many=0)
        book.bar("first", 0, 0, low=0, high=40)
        self.assertEqual(book.depth(), (3, 0))
        book.undo()
        self.assertEqual(book.depth(), (2, 1))

    def test_a_refused_deed_is_none_and_lets_go_of_nothing(self):
        book = Book()
        book.put("first", ROWS)
        book.come("first", 0, 0)
        book.undo()
        for refused in (
            lambda: book.put("first", ROWS), lambda: book.come("first", 9, 9), lambda: book.unite("first", 0, 0),
            lambda: book.part_out("first", 0, []), lambda: book.turn("other"), lambda: book.drop("other"),
            lambda: book.bar("first", 0, 0), lambda: book.run([("drop", "other")]),
        ):
            with self.assertRaises(EdgeError):
                refused()
            self.assertEqual((state_of(book)["first"][0], book.depth()), (ROWS, (1, 1)))
        book.redo()
        self.assertEqual(book.table("first").cells(), [[2, 2], [0, 4]])

    def test_a_new_step_lets_go_what_could_be_redone(self):
        book = Book()
        for at in range(4):
            book.put(f"t{at}", [[at]])
        book.undo()
        book.undo()
        self.assertEqual(book.depth(), (2, 2))
        book.put("new", [[9]])
        self.assertEqual(book.depth(), (3, 0))
        with self.assertRaises(Nothing):
            book.redo()
        book.undo()
        self.assertEqual(book.names(), ["t0", "t1"])
        book.redo()
        self.assertEqual(book.names(), ["new", "t0", "t1"])

    def test_long_rows_of_deeds_undo_and_redo(self):
        for seed in range(20):
            chance = random.Random(seed)
            book, states = Book(), States()
            for at in range(200):
                with self.subTest(seed=seed, at=at):
                    self.one_more(chance, book, states)
                    self.same(book, states)
            self.gone_through(book, states)

    def one_more(self, chance, book, states):
        word = chance.choice(["deed"] * 6 + ["undo"] * 3 + ["redo"] * 2 + ["run"] * 2 + ["settle"] * (chance.random() < 0.1))
        if word in ("undo", "redo"):
            at = states.at + (-1 if word == "undo" else 1)
            deed = book.undo if word == "undo" else book.redo
            if 0 <= at < len(states.all):
                self.assertIsNone(deed())
                states.at = at
            else:
                self.assertRaises(Nothing, deed)
        elif word == "settle":
            self.assertIsNone(book.settle())
            states.all, states.at = [states.now()], 0
        else:
            self.deeds(book, states, [drawn_deed(chance, states.now()) for deed in range(chance.randrange(1, 4))], word)

    def deeds(self, book, states, deeds, word):
        if word == "run":
            deeds = [deed[:3] if deed[0] == "put" else deed for deed in deeds]
        else:
            deeds = deeds[:1]
        try:
            state = states.now()
            for deed in deeds:
                state = behind(state, 8, deed)
            states.step(state)
        except No as refusal:
            with self.assertRaises(EdgeError) as caught:
                book.run(deeds) if word == "run" else do(book, deeds[0])
            self.assertEqual((caught.exception.word, fields_of(caught.exception)), refusal.told)
        else:
            if word == "run":
                self.assertEqual(book.run(deeds), len(deeds))
            else:
                do(book, deeds[0])


class DepthAndSettle(Kept):
    def test_depth(self):
        book = Book()
        self.assertEqual(book.depth(), (0, 0))
        for at in range(5):
            book.put(f"t{at}", [[at]])
        self.assertEqual(book.depth(), (5, 0))
        for at in range(1, 6):
            book.undo()
            self.assertEqual(book.depth(), (5 - at, at))
        book.redo()
        self.assertEqual(book.depth(), (1, 4))
        self.assertIs(type(book.depth()), tuple)

    def test_settle_lets_go_of_both_and_changes_no_table(self):
        book = Book()
        for deed in BEGUN:
            do(book, deed)
        book.undo()
        book.undo()
        ahead = state_of(book)
        self.assertEqual(book.depth(), (6, 2))
        self.assertIsNone(book.settle())
        self.assertEqual((book.depth(), state_of(book)), ((0, 0), ahead))
        for deed in (book.undo, book.redo):
            with self.assertRaises(Nothing):
                deed()
        book.come("first", 0, 0)
        self.assertEqual(book.depth(), (1, 0))
        book.undo()
        self.assertEqual(state_of(book), ahead)

    def test_settle_of_a_new_book(self):
        book = Book()
        self.assertIsNone(book.settle())
        self.assertEqual((book.depth(), len(book)), ((0, 0), 0))


class Run(Kept):
    def test_none_is_no_step(self):
        book = Book()
        self.assertEqual(book.run([]), 0)
        self.assertEqual(book.depth(), (0, 0))
        book.put("first", ROWS)
        book.undo()
        self.assertEqual(book.run([]), 0)
        self.assertEqual(book.depth(), (0, 1))
        book.redo()
        self.assertEqual(book.names(), ["first"])

    def test_one_and_many_are_one_step(self):
        state = {}
        for many in range(1, len(BEGUN) + 1):
            book, state = Book(), behind(state, 8, BEGUN[many - 1])
            self.assertEqual(book.run(BEGUN[:many]), many)
            self.assertEqual((state_of(book), book.depth()), (state, (1, 0)))
            book.undo()
            self.assertEqual((state_of(book), book.depth()), ({}, (0, 1)))
            book.redo()
            self.assertEqual((state_of(book), book.depth()), (state, (1, 0)))

    def test_each_deed(self):
        book = Book()
        book.put("first", ROWS)
        for deed, rows, bounds in (
            (("come", "first", 1, 0, 3), [[1, 2], [3, 4]], [[FREE] * 2] * 2),
            (("come", "first", 1, 1, -4), [[1, 2], [0, 0]], [[FREE] * 2] * 2),
            (("unite", "first", 1, 0, True), [[1, 6]], [[FREE, FREE]]),
            (("unite", "first", 1, 0, False), [[3], [4]], [[FREE], [FREE]]),
            (("part_out", "first", 1, [0, 3], True), [[1, 2], [0, 1], [0, 3]], [[FREE] * 2] * 3),
            (("part_out", "first", 1, [0, 3], False), [[1, 2, 0], [0, 1, 3]], [[FREE] * 3] * 2),
            (("turn", "first"), [[1, 0], [2, 4]], [[FREE] * 2] * 2),
            (("bar", "first", 0, 1, 1, 7), ROWS, [[FREE, (1, 7)], [FREE, FREE]]),
        ):
            with self.subTest(deed=deed):
                twin = book.twin()
                self.assertEqual(twin.run([deed]), 1)
                self.assertEqual(state_of(twin), {"first": (rows, bounds)})
        self.assertEqual(book.run([("drop", "first"), ("put", "next", [[1]])]), 2)
        self.assertEqual(state_of(book), {"next": ([[1]], [[FREE]])})

    def test_a_run_lets_go_what_could_be_redone(self):
        book = Book()
        book.put("first", ROWS)
        book.undo()
        book.run([("put", "second", ROWS), ("drop", "second")])
        self.assertEqual(book.depth(), (1, 0))
        self.assertEqual(book.names(), [])

    def refused(self, deeds, error, **fields):
        book, again = self.settled_book(), self.settled_book()
        handed = copy.deepcopy(deeds)
        with self.assertRaises(error) as caught:
            book.run(handed)
        self.assertIs(type(caught.exception), error)
        self.assertEqual(fields_of(caught.exception), fields)
        self.assertEqual(handed, deeds)
        for asked in (lambda told: None, lambda told: told.undo(), lambda told: told.undo()):
            asked(book)
            asked(again)
            self.assertEqual((state_of(book), book.depth()), (state_of(again), again.depth()))
        for redone in range(3):
            book.redo()
            again.redo()
            self.assertEqual((state_of(book), book.depth()), (state_of(again), again.depth()))
            self.assertEqual(book.share("first", "rare"), again.share("first", "rare"))

    def settled_book(self):
        """A book with two steps to undo and one to redo."""
        book = Book(most=3)
        book.put("first", ROWS)
        book.come("first", 0, 0)
        book.bar("first", 1, 0)
        book.undo()
        return book

    def test_a_refused_deed_amid_others(self):
        good = [("put", "second", [[1, 1]]), ("come", "first", 0, 0, 1), ("come", "second", 0, 0, 1), ("turn", "second")]
        for deed, error, fields in (
            (("put", "9", ROWS), BadName, {}), (("put", "first", ROWS), Taken, {"name": "first"}),
            (("put", "third", [[41]]), BadTable, {}), (("come", "other", 0, 0, 1), Unknown, {"name": "other"}),
            (("come", "first", 5, 0, 1), BadCell, {}), (("come", "first", 0, 0, -9), Outside, {"row": 0, "column": 0}),
            (("come", "first", 0, 0, 34), TooMany, {}), (("unite", "first", 0, 0, True), BadCell, {}),
            (("part_out", "first", 0, [9, 9], True), BadTable, {}), (("turn", "other"), Unknown, {"name": "other"}),
            (("drop", "other"), Unknown, {"name": "other"}), (("bar", "first", 0, 0, 3, 2), BadBounds, {}),
            (("bar", "first", 0, 1, 0, 0), Outside, {"row": 0, "column": 1}),
        ):
            for at in range(len(good) + 1):
                with self.subTest(deed=deed, at=at):
                    self.refused(good[:at] + [deed] + good[at:], error, **fields)
        self.refused(good + [("put", "third", [[1]]), ("put", "more", [[1]])], Full)

    def test_what_a_deed_did_holds_for_the_next_one(self):
        self.refused([("put", "second", [[1]]), ("put", "second", [[1]])], Taken, name="second")
        self.refused([("drop", "first"), ("drop", "first")], Unknown, name="first")
        book = self.settled_book()
        self.assertEqual(book.run([("drop", "first"), ("put", "first", [[3]])]), 2)
        self.assertEqual(book.table("first").cells(), [[3]])

    def test_another_word(self):
        good = [("put", "second", [[1, 1]]), ("come", "first", 0, 0, 1)]
        for deed in (
            ("",), ("undo",), ("redo",), ("settle",), ("run", [("put", "x", [[1]])]), ("Put", "x", [[1]]), ("puts", 1, 2, 3),
            ("more", "first"), ("twin",), ("part", "first", 0, [0, 0], True), ("share", "first", "rare"), ("drop ", "first"),
        ):
            for at in range(3):
                with self.subTest(deed=deed, at=at):
                    self.refused(good[:at] + [deed] + good[at:], BadRule)

    def test_the_first_refusal_of_several(self):
        self.refused([("drop", "other"), ("undo",), ("put", "9", ROWS)], Unknown, name="other")
        self.refused([("undo",), ("drop", "other")], BadRule)

    def test_what_is_handed_in_stays_and_may_be_changed_afterwards(self):
        rows, taken = [[1, 2], [0, 4]], [0, 1]
        deeds = [("put", "first", rows), ("part_out", "first", 1, taken, True)]
        handed, book = copy.deepcopy(deeds), Book()
        book.run(deeds)
        self.assertEqual(deeds, handed)
        rows[0][0] = 9
        taken[1] = 9
        deeds.clear()
        self.assertEqual(book.table("first").cells(), [[1, 2], [0, 3], [0, 1]])


if __name__ == "__main__":
    unittest.main()
