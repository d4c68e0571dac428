"""The examples of the document and of README.md."""

import doctest
import os
import unittest

HERE = os.path.dirname(os.path.abspath(__file__))


class Examples(unittest.TestCase):
    def test_as_they_stand(self):
        self.check_file("examples.txt", 74)

    def test_of_the_readme(self):
        self.check_file(os.path.join("..", "README.md"), 52)

    def check_file(self, name, many):
        told = doctest.testfile(os.path.join(HERE, name), module_relative=False, encoding="utf-8")
        self.assertEqual((told.failed, told.attempted), (0, many))


if __name__ == "__main__":
    unittest.main()
