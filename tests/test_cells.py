"""Points 4, 5 and 10: set, invert and at."""

from tests.calls import CallCase, at, begin, invert, lines, read, set_cell, text

HUGE = 10 ** 18
NO_CELLS = ((-1, 0), (0, -1), (-1, -1), (3, 0), (0, 2), (3, 2), (2, 2), (2, 3), (3, 1), (-3, 0), (0, -2), (40, 0),
            (HUGE, 0), (-HUGE, 0), (0, HUGE), (0, -HUGE), (HUGE, HUGE), (-HUGE, -HUGE))


class Set(CallCase):
    def test_each_cell(self):
        for i in range(3):
            for j in range(2):
                rows = [["."] * 3, ["."] * 3]
                rows[1 - j][i] = "#"
                painted = "/".join(["".join(row) for row in rows])
                cleared = painted.translate(str.maketrans("#.", ".#"))
                self.check((begin(-3, 9, 3, 2, 7), [0]), (set_cell(i, j, 1), [0]), (text(), painted),
                           (set_cell(i, j, 1), [0]), (text(), painted), (set_cell(i, j, 0), [0]), (text(), ".../..."),
                           (set_cell(i, j, 0), [0]), (text(), ".../..."), (invert(), [0]),
                           (set_cell(i, j, 0), [0]), (text(), cleared))

    def test_no_such_cell(self):
        for way in (0, 1):
            for i, j in NO_CELLS:
                self.check((begin(0, 0, 3, 2, 1), [0]), (read(lines("#.#/.#.")), [0]),
                           (set_cell(i, j, way), [-2]), (text(), "#.#/.#."))

    def test_wrong_ways(self):
        for way in (-1, 2, 3, 35, 46, HUGE, -HUGE):
            for i in (0, 1):
                self.check((begin(0, 0, 3, 2, 1), [0]), (read(lines("#.#/.#.")), [0]),
                           (set_cell(i, 0, way), [-1]), (text(), "#.#/.#."))

    def test_no_such_cell_and_a_wrong_way_at_once(self):
        for way in (-1, 2, HUGE, -HUGE):
            for i, j in NO_CELLS:
                self.check((begin(0, 0, 3, 2, 1), [0]), (set_cell(i, j, way), [-2]), (text(), ".../..."))

    def test_the_last_cell_of_the_greatest_grid(self):
        self.check((begin(0, 0, 40, 40, 1), [0]), (set_cell(39, 39, 1), [0]), (at(39, 39), [0, 1]),
                   (set_cell(40, 39, 1), [-2]), (set_cell(39, 40, 1), [-2]))

    def test_i_and_j_are_cells_not_places(self):
        self.check((begin(100, 200, 3, 2, 10), [0]), (set_cell(2, 1, 1), [0]), (text(), "..#/..."),
                   (set_cell(100, 200, 1), [-2]))


class Invert(CallCase):
    def test_some_cells(self):
        self.check((begin(0, 0, 3, 2, 1), [0]), (read(lines("##./..#")), [0]), (invert(), [0]), (text(), "..#/##."),
                   (invert(), [0]), (text(), "##./..#"))

    def test_all_cells(self):
        self.check((begin(0, 0, 3, 2, 1), [0]), (invert(), [0]), (text(), "###/###"), (invert(), [0]),
                   (text(), ".../..."))

    def test_the_first_grid(self):
        self.check((invert(), [0]), (text(), "#"), (at(0, 0), [0, 1]), (invert(), [0]), (at(0, 0), [0, 0]))

    def test_cells_stay_apart_afterwards(self):
        self.check((begin(0, 0, 2, 3, 1), [0]), (invert(), [0]), (set_cell(0, 1, 0), [0]), (text(), "##/.#/##"))


class At(CallCase):
    def test_each_cell(self):
        words = "#.#/.##"
        steps = [(begin(0, 0, 3, 2, 1), [0]), (read(lines(words)), [0])]
        for j, line in enumerate(reversed(words.split("/"))):
            for i, sign in enumerate(line):
                steps.append((at(i, j), [0, 1 if sign == "#" else 0]))
        self.check(*steps)

    def test_no_such_cell(self):
        for filled in ((), ((invert(), [0]),)):
            for i, j in NO_CELLS:
                self.check((begin(0, 0, 3, 2, 1), [0]), *filled, (at(i, j), [-2]))

    def test_it_changes_nothing(self):
        self.check((begin(0, 0, 3, 2, 1), [0]), (read(lines("#.#/.##")), [0]), (at(0, 0), [0, 0]), (at(9, 9), [-2]),
                   (text(), "#.#/.##"))
