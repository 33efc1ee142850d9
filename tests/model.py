"""The calls 0 to 9 over again, cell by cell in the document's own words, to compare with."""

import re

from tests.calls import coded

NUMBER = rb"(?:0|-?[1-9][0-9]*)"
COUNT = rb"(?:0|[1-9][0-9]*)"
HEAD = re.compile(rb"(%s) (%s) (%s)" % (COUNT, NUMBER, NUMBER))
RULE = re.compile(rb"r (%s) (%s) (%s) (%s) (%s)" % (COUNT, NUMBER, NUMBER, COUNT, COUNT))
SIGN = re.compile(rb"s (?:[!-~]|[a-z]{2,12}) [0-2] (%s) (%s) (%s) (%s) (%s) (%s) (%s)"
                  % (COUNT, COUNT, NUMBER, NUMBER, COUNT, COUNT, COUNT))
FAR = 1000000000


def numbers_in(pattern, line):
    """Give the numbers of a line of this form, or None if it has another form or is too far."""
    match = pattern.fullmatch(line)
    if match is None or max(len(part) for part in match.groups()) > 12:
        return None
    numbers = [int(part) for part in match.groups()]
    return numbers if all(-FAR <= number <= FAR for number in numbers) else None


def boxes_in(picture):
    """Give the boxes of a picture's marks, or None if the text is no picture text."""
    first, *others = bytes(picture).split(b"\n")
    if numbers_in(HEAD, first) is None or len(others) > 1000:
        return None
    boxes = []
    for line in others:
        rule = numbers_in(RULE, line)
        sign = numbers_in(SIGN, line)
        if rule is not None:
            node, x, y, width, height = rule
            boxes.append((x, y, x + width, y + height))
        elif sign is not None:
            node, piece, x, y, width, height, depth = sign
            boxes.append((x, y - depth, x + width, y + height))
        else:
            return None
    return boxes


def overlap(one, other):
    return (max(one[0], other[0]) < min(one[2], other[2])) and (max(one[1], other[1]) < min(one[3], other[3]))


class Model:
    def __init__(self):
        self.begin(0, 0, 1, 1, 1)

    def begin(self, left, low, width, height, size):
        if not (1 <= width <= 40 and 1 <= height <= 40 and 1 <= size <= 100000
                and -FAR <= left <= FAR and -FAR <= low <= FAR):
            return [-1]
        self.width, self.height = width, height
        self.boxes = {}
        for j in range(height):
            for i in range(width):
                x, y = left + i * size, low + j * size
                self.boxes[i, j] = (x, y, x + size, y + size)
        self.painted = set()
        return [0]

    def become(self, painted):
        changed = len(self.painted ^ painted)
        self.painted = painted
        return [0, changed]

    def touched(self, boxes):
        return {cell for cell, own in self.boxes.items() if any(overlap(own, box) for box in boxes)}

    def paint(self, picture):
        boxes = boxes_in(picture)
        return [-5] if boxes is None else self.become(self.painted | self.touched(boxes))

    def erase(self, picture):
        boxes = boxes_in(picture)
        return [-5] if boxes is None else self.become(self.painted - self.touched(boxes))

    def set_cell(self, i, j, way):
        if (i, j) not in self.boxes:
            return [-2]
        if way not in (0, 1):
            return [-1]
        self.become(self.painted | {(i, j)} if way == 1 else self.painted - {(i, j)})
        return [0]

    def invert(self):
        self.become(set(self.boxes) - self.painted)
        return [0]

    def within(self, cells, n):
        return {(i, j) for i, j in self.boxes if any(abs(i - a) + abs(j - b) <= n for a, b in cells)}

    def grow(self, n):
        return self.become(self.within(self.painted, n)) if 0 <= n <= 100 else [-1]

    def shrink(self, n):
        if not 0 <= n <= 100:
            return [-1]
        return self.become(self.painted - self.within(set(self.boxes) - self.painted, n))

    def words(self):
        rows = [["#" if (i, j) in self.painted else "." for i in range(self.width)] for j in range(self.height)]
        return "\n".join("".join(row) for row in reversed(rows))

    def text(self):
        return [0] + coded(self.words())

    def read(self, grid):
        found = {(i, self.height - 1 - row) for row, line in enumerate(bytes(grid).split(b"\n"))
                 for i, byte in enumerate(line) if byte == 35}
        before = self.painted
        self.painted = found
        if coded(self.words()) == list(grid):
            return [0]
        self.painted = before
        return [-5]

    def at(self, i, j):
        if (i, j) not in self.boxes:
            return [-2]
        return [0, 1 if (i, j) in self.painted else 0]
