"""What can be counted on rows of cells (1 painted, 0 clear) without going from cell to cell."""

from cellpaint.cells import CLEAR, PAINTED


def painted_in(rows):
    """Give how many cells are painted."""
    return sum([sum(row) for row in rows])


def pairs_in(rows):
    """Give how many pairs of neighbours are both painted."""
    side_by_side = [both(row, row[1:]) for row in rows]
    return painted_in(side_by_side) + painted_in(stacked(rows))


def squares_in(rows):
    """Give how many squares of four cells are all painted."""
    # A square is two stacked pairs side by side.
    return painted_in([both(row, row[1:]) for row in stacked(rows)])


def stacked(rows):
    """Give, for each two rows next to one another, which cells are painted in both."""
    return [both(lower, upper) for lower, upper in zip(rows, rows[1:])]


def both(one, other):
    """Give a row with 1 where two rows are both painted, as far as the shorter of them goes."""
    return [a * b for a, b in zip(one, other)]


def edge_of(rows):
    """Give how many sides of painted cells are no sides of another painted cell."""
    # Each cell has four sides, and a pair of neighbours hides one of each.
    return 4 * painted_in(rows) - 2 * pairs_in(rows)


def runs_of(row):
    """Give, for each run of painted cells from the left, its first cell's number and how many cells it has."""
    runs = []
    length = 0
    # The clear cell behind the end ends a run there too.
    for i, cell in enumerate(row + [CLEAR]):
        if cell == PAINTED:
            length += 1
        elif length > 0:
            runs.extend([i - length, length])
            length = 0
    return runs
