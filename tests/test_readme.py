import doctest
import pathlib
import unittest

README = pathlib.Path(__file__).resolve().parent.parent / "README.md"


class ReadmeTest(unittest.TestCase):
    def test_the_examples_are_true(self):
        # A fence behind an example would else be taken for a part of its result.
        text = README.read_text(encoding="utf-8").replace("```", "")
        examples = doctest.DocTestParser().get_doctest(text, {}, "README.md", None, 0)
        self.assertGreater(len(examples.examples), 10)
        printed = []
        result = doctest.DocTestRunner().run(examples, out=printed.append)
        self.assertEqual(result.failed, 0, "".join(printed))
