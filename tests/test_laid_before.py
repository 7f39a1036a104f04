"""What deeds laid down before they were made quicker ([22], [23]): the same towers, parts, areas and sides.

Each line of laid_before.txt has a deed; its points; the point that it lays down; the area of a, b and
this point, and its side.
"""

import pathlib
import unittest

from rulerchest.numbertexts import number_of, number_text
from rulerchest.plane import cross, side
from rulerchest.tools import laid, tool_of

LINES = (pathlib.Path(__file__).resolve().parent / "laid_before.txt").read_text().splitlines()


def read_line(line):
    """The deed, its points, the texts of the point, and the texts of the area and the side."""
    words, *places, found, told = line.split(" ; ")
    deed = tuple(int(word) if word in ("1", "2") else word for word in words.split(" "))
    points = {}
    for place in places:
        name, x, y = place.split(" | ")
        points[name] = (number_of(x), number_of(y))
    return deed, points, tuple(found.split(" | ")), tuple(told.split(" | "))


class LaidBeforeTests(unittest.TestCase):
    def test_each_line(self):
        for line in LINES:
            deed, points, texts, (area, told) = read_line(line)
            found = laid(deed, points)
            self.assertEqual((number_text(found[0]), number_text(found[1])), texts)
            self.assertEqual(side(points["a"], points["b"], found), int(told))
            if area != "-":
                self.assertEqual(number_text(cross(points["a"], points["b"], found)), area)

    def test_all_tools(self):
        self.assertEqual(len(LINES), 66)
        self.assertEqual(len({tool_of(read_line(line)[0]) for line in LINES}), 10)


if __name__ == "__main__":
    unittest.main()
