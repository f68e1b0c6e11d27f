import doctest
import pathlib
import unittest

README = pathlib.Path(__file__).resolve().parent.parent / "README.md"


class Readme(unittest.TestCase):
    def test_what_it_shows_is_so(self):
        shown = doctest.testfile(str(README), module_relative=False, encoding="utf-8")
        self.assertGreater(shown.attempted, 0)
        self.assertEqual(shown.failed, 0)

    def test_it_says_how_to_run_the_tests(self):
        text = README.read_text(encoding="utf-8")
        self.assertIn(".ci/run", text)
        self.assertIn("python3 -m unittest discover -s tests", text)


if __name__ == "__main__":
    unittest.main()
