"""Points 13, 14 and 15: pieces, piece and keep."""

import sys

from tests.calls import CallCase, area, begin, drawn, holes, invert, keep, piece, pieces, set_cell, text
from tests.shapes import comb, snake, spiral, words_of

HUGE = 10 ** 18
# Each painted cell is written as the number of its piece.
NUMBERED = (
    "0", "000/000", "0.1", "1/./0", "11.2/1..2/..../000.", "..1../0.1.2",
    # Only a corner in common.
    "1./.0", ".1/0.", "3.4/.2./0.1", "5.6.7/.3.4./0.1.2",
    # The first cell lies to the right of another piece's cells.
    "1111/1.../..00", "1.2/1../..0", "2..../2.0../..0.1",
    # Two cells of the lowest row that only hang together above, with and without another piece between.
    "000/0.0", "000.1/0.0.1", "00000/0...0/0.1.0", "0...0/0.1.0/0...0/00000", "00000/0...0/0.1.0/0...0/00000",
    # First met from the right, from the left, from above.
    "..0/.00/00.", "0../00./.00", "000/0../000/..0/000",
)
WINDING = (spiral(40), snake(40), comb(40))


def plain(numbered):
    """Give the words of a grid with numbered cells."""
    return "".join([sign if sign in "./" else "#" for sign in numbered])


def sizes_in(numbered):
    return [numbered.count(str(k)) for k in range(10) if str(k) in numbered]


def cells_in(numbered):
    """Give what is written at each cell i, j."""
    rows = numbered.split("/")
    return [(i, j, sign) for j, row in enumerate(reversed(rows)) for i, sign in enumerate(row)]


def frames_here():
    """Give how many calls are within one another now."""
    many = 0
    frame = sys._getframe()
    while frame is not None:
        many += 1
        frame = frame.f_back
    return many


class Pieces(CallCase):
    def test_none(self):
        self.check((pieces(), [0]), (begin(0, 0, 5, 4, 10), [0]), (pieces(), [0]))

    def test_all_painted(self):
        for width, height in ((1, 1), (1, 7), (7, 1), (5, 4), (40, 40)):
            self.check((begin(0, 0, width, height, 3), [0]), (invert(), [0]), (pieces(), [0, width * height]))

    def test_numbered_grids(self):
        for numbered in NUMBERED:
            self.check(*drawn(plain(numbered)), (pieces(), [0] + sizes_in(numbered)), (text(), plain(numbered)))

    def test_the_lowest_row_comes_first(self):
        self.check(*drawn("####/..../###./..../##.#"), (pieces(), [0, 2, 1, 3, 4]))

    def test_only_a_corner_in_common(self):
        self.check(*drawn("#./.#"), (pieces(), [0, 1, 1]))
        self.check(*drawn(".#/#."), (pieces(), [0, 1, 1]))
        self.check((begin(0, 0, 40, 40, 1), [0]), *[(set_cell(i, i, 1), [0]) for i in range(40)],
                   (pieces(), [0] + [1] * 40))

    def test_the_ends_of_rows_are_not_side_by_side(self):
        self.check(*drawn("#..../....#"), (pieces(), [0, 1, 1]))
        self.check(*drawn("....#/#...."), (pieces(), [0, 1, 1]))
        self.check(*drawn("##.##/...../##.##"), (pieces(), [0, 2, 2, 2, 2]))

    def test_as_many_as_there_can_be(self):
        words = "/".join(["#." * 20, ".#" * 20] * 20)
        self.check(*drawn(words), (pieces(), [0] + [1] * 800))

    def test_winding_ones(self):
        for cells in WINDING:
            self.check(*drawn(words_of(cells, 40)), (pieces(), [0, len(cells)]), (keep(0), [0, 0]),
                       (piece(0, 0), [0, 0]), (text(), words_of(cells, 40)))

    def test_winding_ones_nest_no_calls(self):
        limit = sys.getrecursionlimit()
        sys.setrecursionlimit(frames_here() + 40)
        try:
            for cells in WINDING:
                self.check(*drawn(words_of(cells, 40)), (pieces(), [0, len(cells)]), (holes(), [0, 0]))
        finally:
            sys.setrecursionlimit(limit)


class Piece(CallCase):
    def test_each_cell_of_numbered_grids(self):
        for numbered in NUMBERED:
            steps = [(piece(i, j), [-3] if sign == "." else [0, int(sign)]) for i, j, sign in cells_in(numbered)]
            self.check(*drawn(plain(numbered)), *steps, (text(), plain(numbered)))

    def test_clear_cells(self):
        self.check((piece(0, 0), [-3]), (begin(0, 0, 3, 2, 1), [0]),
                   *[(piece(i, j), [-3]) for i in range(3) for j in range(2)])

    def test_no_such_cell(self):
        for words in ("###/###", ".../...", "#.#/.#."):
            for i, j in ((-1, 0), (0, -1), (-1, -1), (3, 0), (0, 2), (3, 2), (2, 2), (3, 1), (HUGE, 0), (0, HUGE),
                         (-HUGE, 0), (0, -HUGE), (HUGE, HUGE), (-HUGE, -HUGE)):
                self.check(*drawn(words), (piece(i, j), [-2]), (text(), words))

    def test_great_numbers_of_pieces(self):
        words = "/".join(["#." * 20, ".#" * 20] * 20)
        self.check(*drawn(words), (piece(1, 0), [0, 0]), (piece(39, 0), [0, 19]), (piece(0, 1), [0, 20]),
                   (piece(38, 39), [0, 799]), (piece(0, 0), [-3]), (piece(39, 39), [-3]))

    def test_the_numbers_are_those_of_the_grid_as_it_is(self):
        self.check(*drawn("#.#.#"), (piece(4, 0), [0, 2]), (set_cell(1, 0, 1), [0]), (piece(4, 0), [0, 1]),
                   (set_cell(0, 0, 0), [0]), (piece(1, 0), [0, 0]), (keep(1), [0, 2]), (piece(4, 0), [0, 0]))


class Keep(CallCase):
    def test_each_piece_of_numbered_grids(self):
        for numbered in NUMBERED:
            sizes = sizes_in(numbered)
            for k, size in enumerate(sizes):
                kept = "".join([sign if sign == "/" else "#" if sign == str(k) else "." for sign in numbered])
                self.check(*drawn(plain(numbered)), (keep(k), [0, sum(sizes) - size]), (text(), kept),
                           (pieces(), [0, size]), (area(), [0, size]), (keep(0), [0, 0]), (text(), kept))

    def test_no_such_piece(self):
        for numbered in NUMBERED:
            many = len(sizes_in(numbered))
            steps = [(keep(k), [-3]) for k in (-1, -2, -many, -many - 1, many, many + 1, HUGE, -HUGE, 10 ** 9, 2 ** 32)]
            self.check(*drawn(plain(numbered)), *steps, (text(), plain(numbered)))

    def test_a_grid_all_clear(self):
        for k in (-1, 0, 1, HUGE, -HUGE):
            self.check((begin(0, 0, 3, 2, 1), [0]), (keep(k), [-3]), (text(), ".../..."))

    def test_a_winding_one_among_others(self):
        line = spiral(40)
        cut = line - {(20, 0)}
        self.check(*drawn(words_of(cut, 40)), (pieces(), [0, 20, len(line) - 21]), (keep(1), [0, 20]),
                   (area(), [0, len(line) - 21]))
        self.check(*drawn(words_of(cut, 40)), (keep(0), [0, len(line) - 21]),
                   (text(), words_of({(i, 0) for i in range(20)}, 40)))
