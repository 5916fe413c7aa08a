"""The examples of the document, word for word."""

import os
import unittest

from meetlots.errors import MeetError

HERE = os.path.dirname(os.path.abspath(__file__))


def example_blocks():
    """The lines of examples.txt, by the points that stand in brackets ahead of them."""
    blocks = {}
    with open(os.path.join(HERE, "examples.txt"), encoding="ascii") as lines:
        for line in lines.read().split("\n"):
            if line.startswith("["):
                block = blocks.setdefault(line, [])
            elif line:
                block.append(line)
    return blocks


def pairs_of(lines):
    """Each line to be run, with the line that says what comes of it, None if there is none."""
    lines = [line.strip() for line in lines]
    pairs = []
    for line, behind in zip(lines, lines[1:] + [">>> "]):
        if line.startswith(">>> "):
            pairs.append((line[4:], None if behind.startswith(">>> ") else behind))
    return pairs


def told_error(error):
    kept = ", ".join(repr(item) for item in vars(error).values())
    return f"raises {type(error).__name__}({kept})"


def told(line, names):
    try:
        return repr(eval(line, names))
    except MeetError as error:
        return told_error(error)


def readme_lines():
    with open(os.path.join(HERE, "..", "README.md"), encoding="ascii") as lines:
        text = lines.read().split("\n")
    first = [place for place, line in enumerate(text) if line.startswith("    >>> ")]
    return text[first[0]:first[-1] + 2]


class ExamplesTest(unittest.TestCase):
    def check(self, lines, names):
        """Runs all lines, and tells how many of them say what comes of them."""
        checked = 0
        for line, result in pairs_of(lines):
            with self.subTest(line=line):
                if result is None:
                    exec(line, names)
                else:
                    self.assertEqual(told(line, names), result)
                    checked += 1
        return checked

    def test_each_example(self):
        names = {}
        checked = [self.check(lines, names) for lines in example_blocks().values()]
        self.assertEqual(sum(checked), 104)

    def test_each_example_of_the_readme(self):
        self.assertEqual(self.check(readme_lines(), {}), 13)


if __name__ == "__main__":
    unittest.main()
