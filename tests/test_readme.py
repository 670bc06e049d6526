"""The examples of README.md."""

import doctest
import pathlib
import unittest

README = pathlib.Path(__file__).resolve().parent.parent / "README.md"


class Readme(unittest.TestCase):
    def test_its_examples_are_what_is_told(self):
        examples = doctest.DocTestParser().get_examples(README.read_text(encoding="utf-8"))
        self.assertGreater(len(examples), 0)
        failed, tried = doctest.testfile(str(README), module_relative=False)
        self.assertEqual((failed, tried), (0, len(examples)))


if __name__ == "__main__":
    unittest.main()
