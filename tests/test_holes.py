"""Points 16 and 17: holes and fill."""

from tests.calls import CallCase, area, begin, count, drawn, fill, holes, invert, pieces, read, set_cell, text
from tests.shapes import snake, spiral, swapped, words_of

NESTED = "#######/#.....#/#.###.#/#.#.#.#/#.###.#/#.....#/#######"
WITHOUT_HOLES = (
    ".", "#", ".../...", "###/###", "..../.##./....", "..../..../..../....",
    # Widths and heights of 1 and 2.
    "#.#", "#/./#", "##.##/##.##", "####/#..#", "#..#/####", "##/.#/##", "##/#./##", "##/../##", "../..",
    # Clear cells at each side of the border, and some that hang together with these.
    "###/#.#/#.#", "#.#/#.#/###", "###/..#/###", "###/#../###", "#####/#...#/#.###/..###/#####",
    # Together with the border over a corner only.
    ".##/#.#/###", "##./#.#/###", "###/#.#/.##", "###/#.#/##.", ".#./#.#/.#.",
    "...../..#../.#.#./..#../.....", ".###./#..#./####.",
    # Together with the border in a row of corners.
    "#####/#.###/##.##/###.#/####.", "#.###/##.##/#.###/##.##/#####", "..#../.#.#./#...#/.#.#./..#..",
)
# Each cell of a hole is written as the number of the hole.
WITH_HOLES = (
    "###/#0#/###", "####/#00#/####", "###/#0#/#0#/###", "#####/#0#1#/#####", "###/#0#/###/#1#/###",
    # Two clear places with only a corner in common, both ways.
    "####/#0##/##0#/####", "####/##0#/#0##/####", "#####/#0#0#/##0##/#0#0#/#####",
    # Holes beside clear cells outside.
    "....../.####./.#00#./.#0##./.###../......", "###.###/#0#.#1#/###.###", ".....#/###.##/#0#..#/###...",
    # Closed to the outside, though wide and narrow in turn.
    "......./..###../.##0##./.#000#./.##0##./..###../.......",
    # Something painted within a hole, without and with a hole of its own.
    "#####/#000#/#0#0#/#000#/#####", "#####/#000#/#0###/#000#/#####",
    "#######/#00000#/#0###0#/#0#1#0#/#0###0#/#00000#/#######",
    "#########/#0000000#/#0##0##0#/#0#000#0#/#0##0##0#/#0000000#/#########",
    "#######/#00000#/#0#0#0#/#00000#/#######",
    # A ring within a ring that is open at a corner: its inside belongs to the hole around it.
    "#######/#00000#/#00##0#/#0#0#0#/#0###0#/#00000#/#######",
)


def read_back(words):
    """Give the words of a grid with numbered holes as they are read."""
    return "".join([sign if sign in "#./" else "." for sign in words])


def many_in(words):
    return len([k for k in "0123456789" if k in words])


def filled(words):
    return "".join([sign if sign in "./" else "#" for sign in words])


class Holes(CallCase):
    def test_none(self):
        for words in WITHOUT_HOLES:
            self.check(*drawn(words), (holes(), [0, 0]), (text(), words), (fill(), [0, 0]), (text(), words))

    def test_numbered_holes(self):
        for words in WITH_HOLES:
            clear = len([sign for sign in words if sign not in "#./"])
            self.check(*drawn(read_back(words)), (holes(), [0, many_in(words)]), (text(), read_back(words)),
                       (fill(), [0, clear]), (text(), filled(words)), (holes(), [0, 0]), (fill(), [0, 0]),
                       (text(), filled(words)))

    def test_nested_holes(self):
        self.check(*drawn(NESTED), (pieces(), [0, 24, 8]), (holes(), [0, 2]), (count(), [0, 32, 32, 0, 0]),
                   (fill(), [0, 17]), (pieces(), [0, 49]), (holes(), [0, 0]))

    def test_the_border_is_no_hole_wherever_a_cell_lies(self):
        for i in range(5):
            for j in range(4):
                inside = 1 if 0 < i < 4 and 0 < j < 3 else 0
                self.check((begin(0, 0, 5, 4, 2), [0]), (invert(), [0]), (set_cell(i, j, 0), [0]), (holes(), [0, inside]),
                           (fill(), [0, inside]), (area(), [0, 19 + inside]))

    def test_a_way_to_each_side(self):
        for way in ([(0, 2), (1, 2)], [(4, 2), (3, 2)], [(2, 0), (2, 1)], [(2, 4), (2, 3)],
                    [(1, 1), (0, 0)], [(3, 1), (4, 0)], [(1, 3), (0, 4)], [(3, 3), (4, 4)],
                    [(1, 1), (1, 0)], [(3, 1), (4, 1)], [(1, 3), (0, 3)], [(3, 3), (3, 4)]):
            begun = [(begin(0, 0, 5, 5, 1), [0]), (invert(), [0]), (set_cell(2, 2, 0), [0])]
            made = [(set_cell(i, j, 0), [0]) for i, j in way]
            self.check(*begun, *made, (holes(), [0, 0]), (fill(), [0, 0]), (area(), [0, 22]))
            # With one cell of the way alone the border isn't reached.
            for i, j in way:
                inner = 2 if 1 <= i <= 3 and 1 <= j <= 3 else 1
                self.check(*begun, (set_cell(i, j, 0), [0]), (holes(), [0, 1]), (fill(), [0, inner]))

    def test_as_many_as_there_can_be(self):
        words = "/".join(["#" * 39, "#." * 19 + "#"] * 19 + ["#" * 39])
        self.check(*drawn(words), (holes(), [0, 361]), (fill(), [0, 361]), (area(), [0, 39 * 39]))

    def test_corners_all_over(self):
        words = "/".join(["#." * 20, ".#" * 20] * 20)
        self.check(*drawn(words), (holes(), [0, 0]), (fill(), [0, 0]), (text(), words))

    def test_a_winding_way_out(self):
        for cells in (spiral(40), snake(40)):
            words = words_of(cells, 40)
            self.check(*drawn(words), (holes(), [0, 0]), (fill(), [0, 0]), (text(), words))

    def test_winding_holes(self):
        closed = spiral(40) | {(0, 1)}
        self.check(*drawn(words_of(closed, 40)), (pieces(), [0, len(closed)]), (holes(), [0, 1]),
                   (fill(), [0, 1600 - len(closed)]), (area(), [0, 1600]), (holes(), [0, 0]))
        clear = {(i + 1, j + 1) for i, j in snake(37)}
        self.check(*drawn(swapped(words_of(clear, 39))), (holes(), [0, 1]), (fill(), [0, len(clear)]),
                   (area(), [0, 39 * 39]))

    def test_what_is_painted_stays_so(self):
        self.check(*drawn("######/#....#/#.##.#/#....#/######"), (fill(), [0, 10]), (area(), [0, 30]),
                   (read("\n".join(["######", "#....#", "#.##.#", "#....#", "#.####"])), [0]), (fill(), [0, 0]),
                   (area(), [0, 19]))
