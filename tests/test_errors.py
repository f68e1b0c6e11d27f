import unittest

from edgetally import errors

PLAIN = {
    "BadTable": "table",
    "BadSums": "sums",
    "BadBounds": "bounds",
    "BadRule": "rule",
    "BadCell": "cell",
    "BadNumber": "number",
    "NoTable": "none",
    "BadLayers": "layers",
    "BadName": "name",
    "Full": "full",
    "TooMany": "many",
    "Nothing": "nothing",
    "BadPage": "page",
}
WITH_FIELDS = {
    "TooWide": ("wide", {"wide": 501}),
    "Barred": ("barred", {"over": [0, 2], "into": [1]}),
    "Taken": ("taken", {"name": "first"}),
    "Unknown": ("unknown", {"name": "other"}),
    "Outside": ("outside", {"row": 3, "column": 5}),
}
ALL_NAMES = list(PLAIN) + list(WITH_FIELDS)


def class_named(name):
    return getattr(errors, name)


class ErrorClasses(unittest.TestCase):
    def test_there_are_eighteen_and_no_other(self):
        self.assertEqual(len(ALL_NAMES), 18)
        held = [name for name, value in vars(errors).items() if isinstance(value, type)]
        self.assertEqual(sorted(held), sorted(ALL_NAMES + ["EdgeError"]))

    def test_each_stands_under_edge_error_and_value_error(self):
        self.assertEqual(errors.EdgeError.__bases__, (ValueError,))
        for name in ALL_NAMES:
            with self.subTest(name):
                self.assertTrue(issubclass(class_named(name), errors.EdgeError))
                self.assertTrue(issubclass(class_named(name), ValueError))

    def test_none_stands_under_another(self):
        for one in ALL_NAMES:
            for other in ALL_NAMES:
                with self.subTest(one=one, other=other):
                    under = issubclass(class_named(one), class_named(other))
                    self.assertEqual(under, one == other)


class WordsAndFields(unittest.TestCase):
    def test_words_of_plain_errors(self):
        for name, word in PLAIN.items():
            for error in (class_named(name)(), class_named(name)("why it is so")):
                with self.subTest(name):
                    self.assertEqual(error.word, word)
        self.assertEqual(str(errors.BadCell("why it is so")), "why it is so")

    def test_words_and_fields(self):
        for name, (word, fields) in WITH_FIELDS.items():
            with self.subTest(name):
                error = class_named(name)(*fields.values())
                self.assertEqual(error.word, word)
                self.assertEqual({key: getattr(error, key) for key in fields}, fields)

    def test_raised_and_taken_as_edge_error(self):
        with self.assertRaises(errors.EdgeError) as taken:
            raise errors.Outside(1, 4)
        self.assertEqual(taken.exception.word, "outside")
        self.assertEqual((taken.exception.row, taken.exception.column), (1, 4))

    def test_words_of_no_error_have_odd_signs(self):
        made = [class_named(name)() for name in PLAIN]
        made += [class_named(name)(*fields.values()) for name, (word, fields) in WITH_FIELDS.items()]
        for error in made:
            with self.subTest(error.word):
                self.assertTrue(all(" " <= sign <= "~" and sign != "%" for sign in str(error)))

    def test_barred_keeps_no_list_that_is_handed_in(self):
        over, into = [0], [1, 2]
        error = errors.Barred(over, into)
        over.append(3)
        into.clear()
        self.assertEqual((error.over, error.into), ([0], [1, 2]))


if __name__ == "__main__":
    unittest.main()
