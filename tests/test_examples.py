"""The examples of the document, and those of the README."""

import doctest
import pathlib
import unittest

from cellpaint.grid import answers
from tests.calls import CallCase, begin, count, edge, fill, grow, holes, lines, paint, pieces, read, runs, text

README = pathlib.Path(__file__).resolve().parent.parent / "README.md"
PICTURE = "30 20 0\nr 1 0 0 30 10\nr 1 0 15 5 5"


class Examples(CallCase):
    def test_paint_and_grow(self):
        self.check(
            (begin(0, 0, 5, 4, 10), [0]),
            (paint(PICTURE), [0, 4]),
            (text(), "...../...../#..../###.."),
            (count(), [0, 4, 3, 0, 1]),
            (grow(1), [0, 4]),
            (text(), "...../#..../###../####."),
            (edge(), [0, 14]),
        )

    def test_read(self):
        self.check(
            (begin(0, 0, 5, 4, 10), [0]),
            (read(lines("###../#.#../###../.....")), [0]),
            (text(), "###../#.#../###../....."),
            (holes(), [0, 1]),
            (pieces(), [0, 8]),
            (count(), [0, 8, 8, 0, 0]),
            (fill(), [0, 1]),
            (text(), "###../###../###../....."),
            (read(lines("#.#../.#.../#.#../.....")), [0]),
            (text(), "#.#../.#.../#.#../....."),
            (pieces(), [0, 1, 1, 1, 1, 1]),
            (count(), [0, 5, 0, 0, 5]),
            (runs(1), [0, 0, 1, 2, 1]),
        )


class Readme(unittest.TestCase):
    def test_its_examples(self):
        found = doctest.testfile(str(README), module_relative=False, globs={"answers": answers})
        self.assertEqual((found.failed, found.attempted), (0, 2))
