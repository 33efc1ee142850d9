"""The grid of cells that the calls work on."""

CLEAR = 0
PAINTED = 1

# The steps, across and up, from a cell to those that have a side in common with it, and to all that meet it.
TO_NEIGHBOURS = ((-1, 0), (1, 0), (0, -1), (0, 1))
TO_MEETING = ((-1, -1), (-1, 0), (-1, 1), (0, -1), (0, 1), (1, -1), (1, 0), (1, 1))


class Grid:
    """A grid; rows[j][i] is 1 if the cell i, j is painted and 0 if it's clear."""

    def __init__(self):
        self.lay_out(0, 0, 1, 1, 1)

    def lay_out(self, left, low, width, height, size):
        """Be this grid, with all cells clear."""
        self.left = left
        self.low = low
        self.width = width
        self.height = height
        self.size = size
        self.rows = [[CLEAR] * width for j in range(height)]

    def has_cell(self, i, j):
        """Tell whether there's a cell i, j."""
        return 0 <= i < self.width and self.has_row(j)

    def has_row(self, j):
        """Tell whether there's a row j."""
        return 0 <= j < self.height

    def is_at_border(self, i, j):
        """Tell whether the cell i, j is in the first or last column, or in the lowest or highest row."""
        return i in (0, self.width - 1) or j in (0, self.height - 1)

    def turn(self, i, j, way):
        """Make the cell painted (way 1) or clear (way 0); give 1 if it was otherwise before, else 0."""
        changed = 0 if self.rows[j][i] == way else 1
        self.rows[j][i] = way
        return changed

    def turn_all(self, cells, way):
        """Turn all these cells this way; give how many were otherwise before."""
        return sum([self.turn(i, j, way) for i, j in cells])

    def touched(self, box):
        """Give the cells that the box overlaps."""
        columns = overlapped(box.left, box.right, self.left, self.size, self.width)
        cells = []
        for j in overlapped(box.low, box.high, self.low, self.size, self.height):
            cells.extend([(i, j) for i in columns])
        return cells

    def invert(self):
        """Make painted cells clear and clear ones painted."""
        self.rows = [inverted(row) for row in self.rows]

    def spread(self, way, n):
        """Turn each cell this way that is at most n from one that is so; give how many were otherwise before."""
        # The grid has no gaps, so n steps from neighbour to neighbour reach just what is at most n away.
        reached = self.cells_that_are(way)
        changed = 0
        for step in range(n):
            reached = self.spread_once(reached, way)
            changed += len(reached)
        return changed

    def spread_once(self, cells, way):
        """Turn the neighbours of these cells this way; give those that were otherwise before."""
        turned = []
        for i, j in cells:
            for a, b in self.neighbours(i, j):
                if self.turn(a, b, way) == 1:
                    turned.append((a, b))
        return turned

    def cells_that_are(self, way):
        """Give all cells that are painted (way 1) or clear (way 0), in the order of j, for one j of i."""
        cells = []
        for j, row in enumerate(self.rows):
            cells.extend([(i, j) for i, cell in enumerate(row) if cell == way])
        return cells

    def neighbours(self, i, j):
        """Give the cells of the grid that have a side in common with the cell i, j."""
        return [place for place in stepped(i, j, TO_NEIGHBOURS) if self.has_cell(place[0], place[1])]


def stepped(i, j, steps):
    """Give the places to which these steps lead from i, j; the grid may have no cell there."""
    return [(i + across, j + up) for across, up in steps]


def overlapped(start, end, origin, size, many):
    """Give which of many cells of this size, side by side from the origin on, have a point of start <= x < end."""
    if end <= start:
        return []
    first = max((start - origin) // size, 0)
    last = min((end - 1 - origin) // size, many - 1)
    return list(range(first, last + 1))


def inverted(row):
    """Give a row with each cell the other way."""
    return [1 - cell for cell in row]
