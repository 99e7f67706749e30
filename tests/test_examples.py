"""The document's own examples, and those of README.md."""

import doctest
import os
import unittest

README = os.path.join(os.path.dirname(os.path.dirname(os.path.abspath(__file__))), "README.md")

BOXES = """
>>> from surestreams.boxes import Box, covers
>>> columns = (('who', 'word'), ('day', 'number'))
>>> box = Box(columns, {'who': ('not', 'bob'), 'day': (1, 7)})
>>> parts = [Box(columns, {'who': 'ann'}), Box(columns, {'who': ('not', 'ann'), 'day': (None, 9)})]
>>> (('ann', 7) in box, ('bob', 7) in box, covers(parts, box), box.number())
(True, False, True, None)
"""


class ExamplesTest(unittest.TestCase):
    def holds(self, text, name):
        test = doctest.DocTestParser().get_doctest(text, {}, name, None, 0)
        self.assertTrue(test.examples)
        failed, _ = doctest.DocTestRunner(verbose=False).run(test)
        self.assertEqual(failed, 0)

    def test_boxes(self):
        self.holds(BOXES, "boxes")

    def test_readme(self):
        with open(README, encoding="ascii") as file:
            self.holds(file.read(), "README.md")


if __name__ == "__main__":
    unittest.main()
