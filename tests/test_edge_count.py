"""Points 18 and 19: edge and count."""

from tests.calls import CallCase, begin, count, drawn, edge, fill, holes, invert, pieces, run, text
from tests.shapes import comb, snake, spiral, words_of

RING = "###/#.#/###"
NESTED = "#######/#.....#/#.###.#/#.#.#.#/#.###.#/#.....#/#######"


class Edge(CallCase):
    def check_edge(self, words, length):
        self.check(*drawn(words), (edge(), [0, length]), (text(), words))

    def test_a_single_cell(self):
        self.check_edge("#", 4)
        self.check_edge(".../.#./...", 4)
        for words in ("#../...", "..#/...", ".../#..", ".../..#", ".#./...", ".../.#."):
            self.check_edge(words, 4)

    def test_two_cells(self):
        self.check_edge(".##.", 6)
        self.check_edge("./#/#/.", 6)
        self.check_edge("#.#", 8)
        self.check_edge("#/./#", 8)
        self.check_edge("#./.#", 8)
        self.check_edge(".#/#.", 8)

    def test_the_ends_of_rows_are_not_side_by_side(self):
        self.check_edge("..#/#..", 8)
        self.check_edge("#../..#", 8)

    def test_a_square(self):
        self.check_edge("..../.##./.##./....", 8)
        self.check_edge("##./##.", 8)
        self.check_edge("###/###/###", 12)

    def test_a_piece_round_a_hole(self):
        self.check_edge(RING, 16)
        self.check_edge("...../.###./.#.#./.###./.....", 16)
        self.check_edge("####/#..#/####", 20)
        self.check(*drawn(RING), (fill(), [0, 1]), (edge(), [0, 12]))

    def test_a_piece_open_at_one_side(self):
        self.check_edge("###/#.#/#.#", 16)
        self.check_edge("..../.###/.#../.###", 16)

    def test_all_clear(self):
        for width, height in ((1, 1), (5, 4), (40, 40)):
            self.check((begin(0, 0, width, height, 3), [0]), (edge(), [0, 0]))

    def test_all_painted(self):
        for width, height in ((1, 1), (1, 7), (7, 1), (5, 4), (40, 3), (40, 40)):
            # The size of the cells doesn't matter: sides are counted.
            self.check((begin(-9, 9, width, height, 100), [0]), (invert(), [0]), (edge(), [0, 2 * (width + height)]))

    def test_several_pieces(self):
        self.check_edge("#..##/...##/#....", 16)
        self.check_edge("/".join(["#." * 20, ".#" * 20] * 20), 3200)

    def test_winding_ones(self):
        # A line of n cells has two sides for each, and one more at each end.
        for cells in (spiral(40), snake(40)):
            self.check_edge(words_of(cells, 40), 2 * len(cells) + 2)


class Count(CallCase):
    def check_count(self, words, c, p, q):
        self.check(*drawn(words), (count(), [0, c, p, q, c - p + q]), (text(), words))

    def test_all_clear(self):
        for width, height in ((1, 1), (5, 4), (40, 40)):
            self.check((begin(0, 0, width, height, 3), [0]), (count(), [0, 0, 0, 0, 0]))

    def test_all_painted(self):
        for width, height in ((1, 1), (1, 7), (7, 1), (2, 3), (5, 4), (40, 3), (40, 40)):
            pairs = (width - 1) * height + width * (height - 1)
            squares = (width - 1) * (height - 1)
            self.check((begin(0, 0, width, height, 3), [0]), (invert(), [0]),
                       (count(), [0, width * height, pairs, squares, 1]))

    def test_one_cell(self):
        self.check_count("#", 1, 0, 0)
        self.check_count(".../..#/...", 1, 0, 0)

    def test_rows(self):
        self.check_count("###", 3, 2, 0)
        self.check_count("#/#/#", 3, 2, 0)
        self.check_count("#.##", 3, 1, 0)
        self.check_count("#/./#/#", 3, 1, 0)

    def test_squares(self):
        self.check_count("##/##", 4, 4, 1)
        self.check_count("###/###", 6, 7, 2)
        self.check_count("..../.##./.##./....", 4, 4, 1)
        self.check_count("##./###/.##", 7, 8, 2)

    def test_squares_that_lack_a_cell(self):
        for words in (".#/##", "#./##", "##/.#", "##/#."):
            self.check_count(words, 3, 2, 0)

    def test_corners(self):
        self.check_count("#./.#", 2, 0, 0)
        self.check_count(".#/#.", 2, 0, 0)
        self.check_count("#..../....#", 2, 0, 0)
        self.check_count("....#/#....", 2, 0, 0)

    def test_holes_count_against_pieces(self):
        self.check_count(RING, 8, 8, 0)
        self.check_count("#####/#.#.#/#####", 13, 14, 0)
        self.check_count("####/#..#/####", 10, 10, 0)
        self.check_count(NESTED, 32, 32, 0)

    def test_pieces_less_holes(self):
        for words, many, hollow in ((RING, 1, 1), ("#####/#.#.#/#####", 1, 2), (NESTED, 2, 2), ("#.#/.#./#.#", 5, 0),
                                    ("####/#.##/##.#/####", 1, 1), ("###.###/#.#.#.#/###.###", 2, 2),
                                    ("#####/#...#/#.#.#/#...#/#####", 2, 1), (".##/#.#/###", 1, 0),
                                    (".#./#.#/.#.", 4, 0), (words_of(spiral(40), 40), 1, 0),
                                    (words_of(spiral(40) | {(0, 1)}, 40), 1, 1), (words_of(comb(40), 40), 1, 0)):
            found = run(*[call for call, expected in drawn(words)], pieces(), holes(), count())[2:]
            self.assertEqual((len(found[0]) - 1, found[1], found[2][4]), (many, [0, hollow], many - hollow), words)
