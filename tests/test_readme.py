"""The examples of README.md give what it shows."""

import doctest
import os
import unittest

README = os.path.join(os.path.dirname(os.path.dirname(os.path.abspath(__file__))), "README.md")


class ReadmeTest(unittest.TestCase):
    def test_examples(self):
        with open(README, encoding="utf-8") as source:
            text = source.read().replace("```", "")
        examples = doctest.DocTestParser().get_doctest(text, {}, "README.md", README, 0)
        failed, tried = doctest.DocTestRunner().run(examples)
        self.assertGreater(tried, 5)
        self.assertEqual(failed, 0)


if __name__ == "__main__":
    unittest.main()
