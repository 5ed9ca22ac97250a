import doctest
import os
import unittest

ROOT = os.path.dirname(os.path.dirname(os.path.abspath(__file__)))


class ReadmeTest(unittest.TestCase):
    def test_the_examples_of_the_readme(self):
        with open(os.path.join(ROOT, "README.md"), encoding="utf-8") as held:
            # The sign that ends an example would be taken for a part of its output.
            text = held.read().replace("```", "")
        examples = doctest.DocTestParser().get_doctest(text, {}, "README.md", "README.md", 0)
        found = doctest.DocTestRunner().run(examples)
        self.assertEqual(found.failed, 0)
        self.assertGreater(found.attempted, 5)


if __name__ == "__main__":
    unittest.main()
