"""The examples of README.md."""

import doctest
import pathlib
import unittest

README = pathlib.Path(__file__).parent.parent / "README.md"


class Readme(unittest.TestCase):
    def test_the_examples_hold(self):
        # A closing fence would be read as a part of what an example shows.
        text = README.read_text().replace("```", "")
        examples = doctest.DocTestParser().get_doctest(text, {}, "README.md", str(README), 0)
        result = doctest.DocTestRunner().run(examples)
        self.assertGreater(result.attempted, 5)
        self.assertEqual(result.failed, 0)


if __name__ == "__main__":
    unittest.main()
