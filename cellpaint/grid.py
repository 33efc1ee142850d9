"""The calls on a grid, and what each of them answers.

Each call takes what it is given from the source before it does anything, so
that a refusal leaves both the grid and the calls behind it as they were.
"""

from cellpaint.cells import CLEAR, PAINTED, Grid
from cellpaint.gridtexts import rows_of, text_of
from cellpaint.measures import edge_of, painted_in, pairs_in, runs_of, squares_in
from cellpaint.parts import holes_of, pieces_of
from cellpaint.pictures import boxes_of
from cellpaint.source import Source

OUT_OF_RANGE = -1
NOT_ON_GRID = -2
NO_PIECE = -3
NO_SUCH_TEXT = -5

LONGEST_SIDE = 40
GREATEST_CELL_SIZE = 100000
FARTHEST_ORIGIN = 1000000000
GREATEST_DISTANCE = 100


def begin(grid, source):
    left = source.take_number()
    low = source.take_number()
    width = source.take_number()
    height = source.take_number()
    size = source.take_number()
    sides_fit = 1 <= width <= LONGEST_SIDE and 1 <= height <= LONGEST_SIDE
    origin_fits = abs(left) <= FARTHEST_ORIGIN and abs(low) <= FARTHEST_ORIGIN
    if not (sides_fit and origin_fits and 1 <= size <= GREATEST_CELL_SIZE):
        return [OUT_OF_RANGE]
    grid.lay_out(left, low, width, height, size)
    return [0]


def paint(grid, source):
    return cover_marks(grid, source.take_row(), PAINTED)


def erase(grid, source):
    return cover_marks(grid, source.take_row(), CLEAR)


def cover_marks(grid, picture, way):
    boxes = boxes_of(picture)
    if boxes is None:
        return [NO_SUCH_TEXT]
    return [0, sum([grid.turn_all(grid.touched(box), way) for box in boxes])]


def set_cell(grid, source):
    i = source.take_number()
    j = source.take_number()
    way = source.take_number()
    if not grid.has_cell(i, j):
        return [NOT_ON_GRID]
    if way not in (CLEAR, PAINTED):
        return [OUT_OF_RANGE]
    grid.turn(i, j, way)
    return [0]


def invert(grid, source):
    grid.invert()
    return [0]


def grow(grid, source):
    return spread_cells(grid, source.take_number(), PAINTED)


def shrink(grid, source):
    return spread_cells(grid, source.take_number(), CLEAR)


def spread_cells(grid, n, way):
    if not 0 <= n <= GREATEST_DISTANCE:
        return [OUT_OF_RANGE]
    return [0, grid.spread(way, n)]


def text(grid, source):
    return [0] + text_of(grid.rows)


def read(grid, source):
    rows = rows_of(source.take_row(), grid.width, grid.height)
    if rows is None:
        return [NO_SUCH_TEXT]
    grid.rows = rows
    return [0]


def at(grid, source):
    i = source.take_number()
    j = source.take_number()
    if not grid.has_cell(i, j):
        return [NOT_ON_GRID]
    return [0, grid.rows[j][i]]


def area(grid, source):
    return [0, painted_in(grid.rows)]


def runs(grid, source):
    j = source.take_number()
    if not grid.has_row(j):
        return [NOT_ON_GRID]
    return [0] + runs_of(grid.rows[j])


def pieces(grid, source):
    return [0] + [len(cells) for cells in pieces_of(grid)]


def piece(grid, source):
    i = source.take_number()
    j = source.take_number()
    if not grid.has_cell(i, j):
        return [NOT_ON_GRID]
    if grid.rows[j][i] == CLEAR:
        return [NO_PIECE]
    return [0] + [k for k, cells in enumerate(pieces_of(grid)) if (i, j) in cells]


def keep(grid, source):
    k = source.take_number()
    found = pieces_of(grid)
    if not 0 <= k < len(found):
        return [NO_PIECE]
    others = found[:k] + found[k + 1:]
    return [0, sum([grid.turn_all(cells, CLEAR) for cells in others])]


def holes(grid, source):
    return [0, len(holes_of(grid))]


def fill(grid, source):
    return [0, sum([grid.turn_all(cells, PAINTED) for cells in holes_of(grid)])]


def edge(grid, source):
    return [0, edge_of(grid.rows)]


def count(grid, source):
    c = painted_in(grid.rows)
    p = pairs_in(grid.rows)
    q = squares_in(grid.rows)
    return [0, c, p, q, c - p + q]


def marks(grid, source):
    k = source.take_number()
    boxes = boxes_of(source.take_row())
    found = pieces_of(grid)
    if not 0 <= k < len(found):
        return [NO_PIECE]
    if boxes is None:
        return [NO_SUCH_TEXT]
    return [0] + [number for number, box in enumerate(boxes) if touches_one(grid, box, found[k])]


def touches_one(grid, box, cells):
    return len(set(grid.touched(box)) & set(cells)) > 0


CALLS = {
    0: begin,
    1: paint,
    2: erase,
    3: set_cell,
    4: invert,
    5: grow,
    6: shrink,
    7: text,
    8: read,
    9: at,
    10: area,
    11: runs,
    12: pieces,
    13: piece,
    14: keep,
    15: holes,
    16: fill,
    17: edge,
    18: count,
    19: marks,
}


def answers(calls):
    """Make the calls on one new grid; give, for each, how many numbers are answered and these."""
    grid = Grid()
    source = Source(calls)
    given = []
    while source.has_more():
        call = CALLS[source.take_number()]
        answer = call(grid, source)
        given.append(len(answer))
        given.extend(answer)
    return given
