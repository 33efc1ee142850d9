"""Great shapes that wind through a grid, as words with / where a line ends."""


def words_of(painted, side):
    """Give the words of a square grid in which these cells, each i, j, are painted."""
    rows = [["#" if (i, j) in painted else "." for i in range(side)] for j in range(side)]
    return "/".join(["".join(row) for row in reversed(rows)])


def spiral(side):
    """Give the cells of a line that winds inward from 0, 0, with a clear line of one cell's breadth beside it."""
    lengths = [side - 1] + [length for length in range(side - 1, 1, -2) for time in (1, 2)]
    i, j, across, up = 0, 0, 1, 0
    cells = {(0, 0)}
    for length in lengths:
        for step in range(length):
            i, j = i + across, j + up
            cells.add((i, j))
        across, up = -up, across
    return cells


def snake(side):
    """Give the cells of a line that goes through each second row, up at its ends in turn."""
    cells = {(i, j) for j in range(0, side, 2) for i in range(side)}
    return cells | {(side - 1 if j % 4 == 1 else 0, j) for j in range(1, side - 1, 2)}


def comb(side):
    """Give the cells of a highest row with a tooth down from each second cell of it."""
    return {(i, j) for i in range(side) for j in range(side) if j == side - 1 or i % 2 == 0}


def swapped(words):
    """Give the words with painted cells clear and clear ones painted."""
    return words.translate(str.maketrans("#.", ".#"))
