"""The calls over again, cell by cell in the document's own words, to compare with."""

import re

from tests.calls import coded

NUMBER = rb"(?:0|-?[1-9][0-9]*)"
COUNT = rb"(?:0|[1-9][0-9]*)"
HEAD = re.compile(rb"(%s) (%s) (%s)" % (COUNT, NUMBER, NUMBER))
RULE = re.compile(rb"r (%s) (%s) (%s) (%s) (%s)" % (COUNT, NUMBER, NUMBER, COUNT, COUNT))
SIGN = re.compile(rb"s (?:[!-~]|[a-z]{2,12}) [0-2] (%s) (%s) (%s) (%s) (%s) (%s) (%s)"
                  % (COUNT, COUNT, NUMBER, NUMBER, COUNT, COUNT, COUNT))
FAR = 1000000000


def numbers_in(pattern, line):
    """Give the numbers of a line of this form, or None if it has another form or is too far."""
    match = pattern.fullmatch(line)
    if match is None or max(len(part) for part in match.groups()) > 12:
        return None
    numbers = [int(part) for part in match.groups()]
    return numbers if all(-FAR <= number <= FAR for number in numbers) else None


def boxes_in(picture):
    """Give the boxes of a picture's marks, or None if the text is no picture text."""
    first, *others = bytes(picture).split(b"\n")
    if numbers_in(HEAD, first) is None or len(others) > 1000:
        return None
    boxes = []
    for line in others:
        rule = numbers_in(RULE, line)
        sign = numbers_in(SIGN, line)
        if rule is not None:
            node, x, y, width, height = rule
            boxes.append((x, y, x + width, y + height))
        elif sign is not None:
            node, piece, x, y, width, height, depth = sign
            boxes.append((x, y - depth, x + width, y + height))
        else:
            return None
    return boxes


def overlap(one, other):
    return (max(one[0], other[0]) < min(one[2], other[2])) and (max(one[1], other[1]) < min(one[3], other[3]))


def neighbours(one, other):
    return abs(one[0] - other[0]) + abs(one[1] - other[1]) == 1


def meet(one, other):
    return one != other and abs(one[0] - other[0]) <= 1 and abs(one[1] - other[1]) <= 1


def joined_groups(cells, together):
    """Give the groups of cells that hang together, by joining groups as long as cells are added one by one."""
    groups = []
    for cell in cells:
        near = [group for group in groups if any(together(cell, other) for other in group)]
        groups = [group for group in groups if group not in near] + [{cell}.union(*near)]
    return groups


class Model:
    def __init__(self):
        self.begin(0, 0, 1, 1, 1)

    def begin(self, left, low, width, height, size):
        if not (1 <= width <= 40 and 1 <= height <= 40 and 1 <= size <= 100000
                and -FAR <= left <= FAR and -FAR <= low <= FAR):
            return [-1]
        self.width, self.height = width, height
        self.boxes = {}
        for j in range(height):
            for i in range(width):
                x, y = left + i * size, low + j * size
                self.boxes[i, j] = (x, y, x + size, y + size)
        self.painted = set()
        return [0]

    def become(self, painted):
        changed = len(self.painted ^ painted)
        self.painted = painted
        return [0, changed]

    def touched(self, boxes):
        return {cell for cell, own in self.boxes.items() if any(overlap(own, box) for box in boxes)}

    def paint(self, picture):
        boxes = boxes_in(picture)
        return [-5] if boxes is None else self.become(self.painted | self.touched(boxes))

    def erase(self, picture):
        boxes = boxes_in(picture)
        return [-5] if boxes is None else self.become(self.painted - self.touched(boxes))

    def set_cell(self, i, j, way):
        if (i, j) not in self.boxes:
            return [-2]
        if way not in (0, 1):
            return [-1]
        self.become(self.painted | {(i, j)} if way == 1 else self.painted - {(i, j)})
        return [0]

    def invert(self):
        self.become(set(self.boxes) - self.painted)
        return [0]

    def within(self, cells, n):
        return {(i, j) for i, j in self.boxes if any(abs(i - a) + abs(j - b) <= n for a, b in cells)}

    def grow(self, n):
        return self.become(self.within(self.painted, n)) if 0 <= n <= 100 else [-1]

    def shrink(self, n):
        if not 0 <= n <= 100:
            return [-1]
        return self.become(self.painted - self.within(set(self.boxes) - self.painted, n))

    def words(self):
        rows = [["#" if (i, j) in self.painted else "." for i in range(self.width)] for j in range(self.height)]
        return "\n".join("".join(row) for row in reversed(rows))

    def text(self):
        return [0] + coded(self.words())

    def read(self, grid):
        found = {(i, self.height - 1 - row) for row, line in enumerate(bytes(grid).split(b"\n"))
                 for i, byte in enumerate(line) if byte == 35}
        before = self.painted
        self.painted = found
        if coded(self.words()) == list(grid):
            return [0]
        self.painted = before
        return [-5]

    def at(self, i, j):
        if (i, j) not in self.boxes:
            return [-2]
        return [0, 1 if (i, j) in self.painted else 0]

    def area(self):
        return [0, len(self.painted)]

    def runs(self, j):
        if not 0 <= j < self.height:
            return [-2]
        row = self.words().split("\n")[self.height - 1 - j]
        found = [0]
        for match in re.finditer("#+", row):
            found.extend([match.start(), len(match.group())])
        return found

    def all_pieces(self):
        """Give the pieces as sets of cells, in the order of their numbers."""
        groups = joined_groups(self.painted, neighbours)
        return sorted(groups, key=lambda group: min((j, i) for i, j in group))

    def pieces(self):
        return [0] + [len(group) for group in self.all_pieces()]

    def piece(self, i, j):
        if (i, j) not in self.boxes:
            return [-2]
        if (i, j) not in self.painted:
            return [-3]
        return [0, [(i, j) in group for group in self.all_pieces()].index(True)]

    def keep(self, k):
        groups = dict(enumerate(self.all_pieces()))
        return self.become(groups[k]) if k in groups else [-3]

    def all_holes(self):
        def is_inner(i, j):
            return 0 < i < self.width - 1 and 0 < j < self.height - 1
        groups = joined_groups(set(self.boxes) - self.painted, meet)
        return [group for group in groups if all(is_inner(i, j) for i, j in group)]

    def holes(self):
        return [0, len(self.all_holes())]

    def fill(self):
        return self.become(self.painted.union(*self.all_holes()))

    def edge(self):
        """A side is told by the middle of it, in halves of a cell."""
        sides = [(2 * i + across, 2 * j + up) for i, j in self.painted
                 for across, up in ((-1, 0), (1, 0), (0, -1), (0, 1))]
        return [0, len([side for side in sides if sides.count(side) == 1])]

    def count(self):
        pairs = [(one, other) for one in self.painted for other in self.painted
                 if one < other and neighbours(one, other)]
        squares = [(i, j) for i, j in self.painted
                   if {(i + 1, j), (i, j + 1), (i + 1, j + 1)} <= self.painted]
        c, p, q = len(self.painted), len(pairs), len(squares)
        return [0, c, p, q, c - p + q]

    def marks(self, k, picture):
        groups = dict(enumerate(self.all_pieces()))
        boxes = boxes_in(picture)
        if k not in groups:
            return [-3]
        if boxes is None:
            return [-5]
        return [0] + [number for number, box in enumerate(boxes)
                      if any(overlap(self.boxes[cell], box) for cell in groups[k])]
