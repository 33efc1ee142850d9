"""Points 6 and 7: grow and shrink."""

from tests.calls import CallCase, begin, grow, invert, lines, read, set_cell, shrink, text

HUGE = 10 ** 18


def other_way(words):
    return words.translate(str.maketrans("#.", ".#"))


class GrowAndShrink(CallCase):
    def check_both(self, before, n, changed, after):
        """Grow takes the one to the other; shrink does the same with painted and clear cells in each other's place."""
        rows = before.split("/")
        start = begin(-4, 11, len(rows[0]), len(rows), 3)
        self.check((start, [0]), (read(lines(before)), [0]), (grow(n), [0, changed]), (text(), after))
        self.check((start, [0]), (read(lines(other_way(before))), [0]), (shrink(n), [0, changed]),
                   (text(), other_way(after)))

    def test_one_cell(self):
        self.check_both("...../...../..#../...../.....", 1, 4, "...../..#../.###./..#../.....")
        self.check_both("...../...../..#../...../.....", 2, 12, "..#../.###./#####/.###./..#..")
        self.check_both("...../...../..#../...../.....", 3, 20, ".###./#####/#####/#####/.###.")
        self.check_both("...../...../..#../...../.....", 4, 24, "#####/#####/#####/#####/#####")

    def test_the_distance_0(self):
        for words in ("..#/#..", ".../...", "###/###"):
            self.check_both(words, 0, 0, words)

    def test_at_the_border(self):
        self.check_both("#.../..../....", 1, 2, "##../#.../....")
        self.check_both("..../..../...#", 2, 5, "...#/..##/.###")
        self.check_both("...#/..../....", 1, 2, "..##/...#/....")
        self.check_both("..../#.../....", 1, 3, "#.../##../#...")

    def test_nothing_goes_round_the_border(self):
        self.check_both("#..../...../.....", 1, 2, "##.../#..../.....")
        self.check_both("....#/...../.....", 1, 2, "...##/....#/.....")

    def test_several_cells_count_once(self):
        self.check_both("#.#/.../#.#", 1, 4, "###/#.#/###")
        self.check_both("#.#/.../#.#", 2, 5, "###/###/###")
        self.check_both("##../..../....", 1, 3, "###./##../....")

    def test_all_clear_and_all_painted(self):
        for n in (0, 1, 2, 100):
            self.check_both(".../.../...", n, 0, ".../.../...")
            self.check_both("###/###/###", n, 0, "###/###/###")

    def test_the_grids_border_does_not_count_as_clear(self):
        self.check((begin(0, 0, 3, 3, 1), [0]), (invert(), [0]), (shrink(1), [0, 0]), (text(), "###/###/###"),
                   (set_cell(0, 0, 0), [0]), (shrink(1), [0, 2]), (text(), "###/.##/..#"))

    def test_the_distance_100(self):
        self.check_both("#......./......../........", 100, 23, "########/########/########")
        self.check((begin(0, 0, 40, 40, 1), [0]), (set_cell(0, 0, 1), [0]), (grow(100), [0, 1599]))

    def test_the_farthest_cell_of_the_greatest_grid(self):
        last_left = "/".join(["." * 39 + "#"] + ["." * 40] * 39)
        self.check((begin(0, 0, 40, 40, 1), [0]), (set_cell(39, 0, 1), [0]), (grow(77), [0, 1598]),
                   (text(), "/".join(["." + "#" * 39] + ["#" * 40] * 39)))
        self.check((begin(0, 0, 40, 40, 1), [0]), (set_cell(39, 0, 1), [0]), (grow(78), [0, 1599]),
                   (text(), "/".join(["#" * 40] * 40)))
        self.check((begin(0, 0, 40, 40, 1), [0]), (invert(), [0]), (set_cell(0, 0, 0), [0]), (shrink(77), [0, 1598]),
                   (text(), last_left))

    def test_wrong_distances(self):
        for n in (-1, 101, -100, HUGE, -HUGE):
            for call in (grow(n), shrink(n)):
                self.check((begin(0, 0, 3, 3, 1), [0]), (read(lines("#../.##/...")), [0]), (call, [-1]),
                           (text(), "#../.##/..."))

    def test_one_after_another(self):
        self.check((begin(0, 0, 5, 5, 1), [0]), (set_cell(2, 2, 1), [0]), (grow(1), [0, 4]), (grow(1), [0, 8]),
                   (shrink(1), [0, 8]), (text(), "...../..#../.###./..#../....."), (shrink(2), [0, 5]),
                   (text(), "...../...../...../...../....."))

    def test_a_grid_of_one_cell(self):
        self.check((grow(1), [0, 0]), (text(), "."), (shrink(1), [0, 0]), (invert(), [0]), (grow(100), [0, 0]),
                   (shrink(100), [0, 0]), (text(), "#"))

    def test_grids_of_one_row_or_column(self):
        self.check_both("...#....", 2, 4, ".#####..")
        self.check_both("./././#/./.", 1, 2, "././#/#/#/.")

    def test_the_size_of_the_cells_does_not_matter(self):
        self.check((begin(0, 0, 5, 1, 100000), [0]), (set_cell(2, 0, 1), [0]), (grow(1), [0, 2]), (text(), ".###."))
