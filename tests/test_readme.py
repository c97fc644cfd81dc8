"""The examples of README.md."""

import doctest
import os
import unittest

README = os.path.join(os.path.dirname(os.path.abspath(__file__)), "..", "README.md")


class Readme(unittest.TestCase):
    def test_examples(self):
        with open(README, encoding="ascii") as file:
            # The marks at the ends of the examples are no part of what is told.
            text = "\n".join("" if line == "```" else line for line in file.read().split("\n"))
        test = doctest.DocTestParser().get_doctest(text, {}, "README.md", README, 0)
        told = []
        result = doctest.DocTestRunner(verbose=False).run(test, out=told.append)
        self.assertEqual(result.failed, 0, "".join(told))
        self.assertGreater(result.attempted, 20)


if __name__ == "__main__":
    unittest.main()
