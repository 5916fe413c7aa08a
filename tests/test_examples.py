"""The examples of the document, word for word."""

import os
import unittest

from meetlots.errors import MeetError

HERE = os.path.dirname(os.path.abspath(__file__))


def example_blocks():
    """The lines of examples.txt, by the points that stand in brackets ahead of them."""
    blocks = {}
    with open(os.path.join(HERE, "examples.txt"), encoding="ascii") as lines:
        for line in lines.read().split("\n"):
            if line.startswith("["):
                block = blocks.setdefault(line, [])
            elif line:
                block.append(line)
    return blocks


def pairs_of(lines):
    """Each line to be run, with the line that says what comes of it, None if there is none."""
    lines = [line.strip() for line in lines]
    pairs = []
    for line, behind in zip(lines, lines[1:] + [">>> "]):
        if line.startswith(">>> "):
            pairs.append((line[4:], None if behind.startswith(">>> ") else behind))
    return pairs


def told_error(error):
    kept = ", ".join(repr(item) for item in vars(error).values())
    return f"raises {type(error).__name__}({kept})"


def told(line, names):
    try:
        return repr(eval(line, names))
    except MeetError as error:
        return told_error(error)


class ExamplesTest(unittest.TestCase):
    def test_each_example(self):
        names = {}
        checked = 0
        for point, lines in example_blocks().items():
            for line, result in pairs_of(lines):
                with self.subTest(point=point, line=line):
                    if result is None:
                        exec(line, names)
                    else:
                        self.assertEqual(told(line, names), result)
                        checked += 1
        self.assertEqual(checked, 64)


if __name__ == "__main__":
    unittest.main()
