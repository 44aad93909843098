"""The document's examples, and those of README.md, with the answers that they print."""

import doctest
import pathlib
import unittest

EXAMPLES = pathlib.Path(__file__).resolve().parent / "examples"
README = EXAMPLES.parent.parent / "README.md"


class Examples(unittest.TestCase):
    def test_each_file(self):
        paths = sorted(EXAMPLES.glob("*.txt"))
        self.assertTrue(paths)
        for path in [*paths, README]:
            with self.subTest(path.stem):
                text = path.read_text().replace("```", "")
                parts = doctest.DocTestParser().get_doctest(text, {}, path.stem, str(path), 0)
                told = []
                result = doctest.DocTestRunner(verbose=False).run(parts, out=told.append)
                self.assertGreater(result.attempted, 0)
                self.assertEqual(result.failed, 0, "".join(told))


if __name__ == "__main__":
    unittest.main()
