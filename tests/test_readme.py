"""The examples of README.md give what README.md shows."""

import doctest
import pathlib
import unittest

README = pathlib.Path(__file__).resolve().parent.parent / "README.md"


class ReadmeTest(unittest.TestCase):
    def test_examples(self):
        # A fence behind an example would count as a line of its answer.
        text = README.read_text().replace("```", "")
        test = doctest.DocTestParser().get_doctest(text, {}, "README", "README.md", 0)
        self.assertGreater(len(test.examples), 20)
        report = []
        result = doctest.DocTestRunner().run(test, out=report.append)
        self.assertEqual(result.failed, 0, "".join(report))


if __name__ == "__main__":
    unittest.main()
