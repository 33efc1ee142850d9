"""Points 11 and 12: area and runs."""

from tests.calls import (CallCase, area, begin, drawn, erase, fill, grow, invert, keep, lines, paint, picture, read,
                         rule, runs, set_cell, shrink, text)

HUGE = 10 ** 18


class Area(CallCase):
    def test_the_first_grid(self):
        self.check((area(), [0, 0]), (set_cell(0, 0, 1), [0]), (area(), [0, 1]))

    def test_all_clear_and_all_painted(self):
        for width, height in ((1, 1), (5, 4), (1, 40), (40, 1), (40, 40)):
            self.check((begin(3, -3, width, height, 7), [0]), (area(), [0, 0]), (invert(), [0]),
                       (area(), [0, width * height]))

    def test_some_cells(self):
        self.check(*drawn("#.#./..../.##."), (area(), [0, 4]), (text(), "#.#./..../.##."))

    def test_after_each_call_that_changes_the_grid(self):
        self.check((begin(0, 0, 5, 4, 10), [0]), (area(), [0, 0]),
                   (paint(picture(rule(0, 0, 30, 20))), [0, 6]), (area(), [0, 6]),
                   (erase(picture(rule(10, 0, 10, 10))), [0, 1]), (area(), [0, 5]),
                   (set_cell(4, 3, 1), [0]), (area(), [0, 6]), (set_cell(4, 3, 1), [0]), (area(), [0, 6]),
                   (set_cell(0, 0, 0), [0]), (area(), [0, 5]), (invert(), [0]), (area(), [0, 15]),
                   (shrink(1), [0, 9]), (area(), [0, 6]), (grow(1), [0, 7]), (area(), [0, 13]),
                   (read(lines("#####/#..##/#..#./####.")), [0]), (area(), [0, 14]),
                   (fill(), [0, 4]), (area(), [0, 18]),
                   (read(lines("#...#/..#.#/....#/##..#")), [0]), (area(), [0, 8]),
                   (keep(1), [0, 4]), (area(), [0, 4]), (begin(0, 0, 2, 2, 1), [0]), (area(), [0, 0]))

    def test_as_it_was_after_refusals(self):
        self.check(*drawn("##/.#"), (paint("no"), [-5]), (set_cell(2, 0, 1), [-2]), (keep(1), [-3]), (area(), [0, 3]))


class Runs(CallCase):
    def check_row(self, row, *expected):
        """The row has these runs, whatever stands in the rows below and above."""
        for other in ("." * len(row), "#" * len(row)):
            words = "/".join((other, row, other))
            self.check(*drawn(words), (runs(1), [0, *expected]), (text(), words))
        self.check(*drawn(row), (runs(0), [0, *expected]))

    def test_no_run(self):
        self.check_row(".")
        self.check_row(".....")

    def test_one_run(self):
        self.check_row("..#..", 2, 1)
        self.check_row(".###.", 1, 3)

    def test_a_run_at_the_left_end(self):
        self.check_row("#....", 0, 1)
        self.check_row("##...", 0, 2)

    def test_a_run_at_the_right_end(self):
        self.check_row("....#", 4, 1)
        self.check_row("..###", 2, 3)

    def test_a_row_all_painted(self):
        self.check_row("#", 0, 1)
        self.check_row("#####", 0, 5)
        self.check_row("#" * 40, 0, 40)

    def test_several_runs(self):
        self.check_row("#.#", 0, 1, 2, 1)
        self.check_row(".##.#..###.", 1, 2, 4, 1, 7, 3)
        self.check_row("##.#..###", 0, 2, 3, 1, 6, 3)

    def test_as_many_runs_as_there_can_be(self):
        self.check_row("#." * 20, *[number for i in range(0, 40, 2) for number in (i, 1)])
        self.check_row(".#" * 20, *[number for i in range(1, 40, 2) for number in (i, 1)])

    def test_rows_are_counted_from_the_lowest(self):
        self.check(*drawn("#..../.##../..###"), (runs(0), [0, 2, 3]), (runs(1), [0, 1, 2]), (runs(2), [0, 0, 1]))

    def test_runs_begin_at_cells_not_at_places(self):
        self.check((begin(100, 200, 4, 1, 10), [0]), (read(".##."), [0]), (runs(0), [0, 1, 2]))

    def test_no_such_row(self):
        for words in ("#..../.##../..###", "...../...../.....", "#####/#####/#####"):
            for j in (-1, -2, -3, 3, 4, 5, 40, HUGE, -HUGE):
                self.check(*drawn(words), (runs(j), [-2]), (text(), words))

    def test_the_highest_row_of_the_greatest_grid(self):
        self.check((begin(0, 0, 1, 40, 1), [0]), (set_cell(0, 39, 1), [0]), (runs(39), [0, 0, 1]), (runs(40), [-2]),
                   (runs(0), [0]))
