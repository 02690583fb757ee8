"""Every example of the document, as it stands there."""

import doctest
import os
import unittest

HERE = os.path.dirname(os.path.abspath(__file__))
DOCUMENT = os.path.join(HERE, "..", "..", "shared", "DOC.md")


def read(path):
    with open(path, encoding="utf-8") as held:
        return held.read()


def examples():
    """Pairs of a heading and the example below it, in sequence."""
    rows = read(os.path.join(HERE, "examples.txt")).split("## ")[1:]
    return [row.split("\n", 1) for row in rows]


class TestExamples(unittest.TestCase):
    def test_each_example(self):
        # Later examples use what earlier ones named, so all share their names.
        names = {}
        for heading, text in examples():
            with self.subTest(heading):
                told = []
                test = doctest.DocTestParser().get_doctest(text, names, heading, None, 0)
                done = doctest.DocTestRunner().run(test, out=told.append, clear_globs=False)
                names = test.globs
                self.assertGreater(done.attempted, 1)
                self.assertEqual(done.failed, 0, "".join(told))

    @unittest.skipUnless(os.path.exists(DOCUMENT), "the document is not at hand")
    def test_they_are_those_of_the_document(self):
        document = read(DOCUMENT)
        for heading, text in examples():
            with self.subTest(heading):
                section = document.split("\n## " + heading)[1].split("\n## ")[0]
                self.assertEqual(section.split("```\n")[1], text)


if __name__ == "__main__":
    unittest.main()
