import doctest
import pathlib
import unittest

README = pathlib.Path(__file__).parent.parent / "README.md"


class ReadmeTest(unittest.TestCase):
    def test_the_examples(self):
        text = README.read_text(encoding="utf-8").replace("\n```", "\n")
        test = doctest.DocTestParser().get_doctest(text, {}, "README.md", None, 0)
        self.assertGreater(len(test.examples), 30)
        told = []
        doctest.DocTestRunner(verbose=False).run(test, out=told.append)
        self.assertEqual(told, [])


if __name__ == "__main__":
    unittest.main()
