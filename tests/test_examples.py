"""All examples of DOC.md, which stand in examples.txt, and those of README.md."""

import os
import re
import unittest
from rulertrees import errors
from tests.helpers import exact

HERE = os.path.dirname(os.path.abspath(__file__))
ROOT = os.path.dirname(HERE)
DOCUMENT = os.path.join(os.path.dirname(ROOT), "shared", "DOC.md")


def read(path):
    with open(path, encoding="utf-8") as stream:
        return stream.read()


def blocks_of(text):
    return re.findall(r"\n```\n(.*?)\n```", text, re.S)


def steps_of(block):
    """Pairs of what is typed and the lines that are shown below it; they are joined."""
    found = []
    for line in block.split("\n"):
        if line.startswith(">>> "):
            found.append([line[4:], ""])
        elif line:
            found[-1][1] += line
    return found


class ExamplesTest(unittest.TestCase):

    def run_block(self, block):
        known = {}
        for typed, shown in steps_of(block):
            if not shown:
                exec(typed, known)
            elif shown.startswith("raises "):
                self.check_error(typed, shown.removeprefix("raises "), known)
            else:
                found, expected = eval(typed, known), eval(shown, {})
                self.assertTrue(exact(found, expected), (typed, found, expected))

    def check_error(self, typed, shown, known):
        name, _, told = shown.partition("(")
        with self.assertRaises(errors.RulerError) as caught:
            exec(typed, known)
        self.assertIs(caught.exception.__class__, getattr(errors, name), typed)
        if told:
            expected = eval(shown, vars(errors))
            self.assertTrue(exact(vars(caught.exception), vars(expected)), (typed, shown))

    def test_examples_of_the_document(self):
        blocks = read(os.path.join(HERE, "examples.txt")).split("\n\n")
        self.assertEqual(len(blocks), 15)
        for block in blocks:
            self.run_block(block)

    def test_they_are_those_of_the_document(self):
        if os.path.exists(DOCUMENT):
            blocks = blocks_of(read(DOCUMENT))
            self.assertEqual("\n\n".join(blocks) + "\n", read(os.path.join(HERE, "examples.txt")))

    def test_examples_of_the_readme(self):
        blocks = [block for block in blocks_of(read(os.path.join(ROOT, "README.md"))) if block.startswith(">>> ")]
        self.assertGreater(len(blocks), 0)
        for block in blocks:
            self.run_block(block)


if __name__ == "__main__":
    unittest.main()
