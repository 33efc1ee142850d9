"""Point 1: begin."""

from tests.calls import CallCase, at, begin, invert, paint, set_cell, text

FAR = 1000000000
HUGE = 10 ** 18


class Begin(CallCase):
    def check_taken(self, left, low, width, height, size):
        blank = "/".join(["." * width] * height)
        self.check((begin(left, low, width, height, size), [0]), (text(), blank),
                   (at(width - 1, height - 1), [0, 0]), (at(width, 0), [-2]), (at(0, height), [-2]))

    def check_refused(self, left, low, width, height, size):
        self.check(
            (begin(3, -4, 3, 2, 5), [0]),
            (set_cell(1, 1, 1), [0]),
            (begin(left, low, width, height, size), [-1]),
            (text(), ".#./..."),
            # The origin and the size are as they were too: this rule lies just in the cell 2, 0.
            (paint("0 0 0\nr 0 13 -4 5 5"), [0, 1]),
            (text(), ".#./..#"),
        )

    def test_at_the_lists_beginning(self):
        self.check((text(), "."), (at(0, 0), [0, 0]), (at(1, 0), [-2]), (at(0, 1), [-2]))

    def test_the_first_grid_has_the_size_1_and_the_origin_0_0(self):
        for rule, changed in (("0 0", 1), ("1 0", 0), ("0 1", 0), ("-1 0", 0), ("0 -1", 0)):
            self.check((paint("0 0 0\nr 0 " + rule + " 1 1"), [0, changed]))

    def test_ordinary(self):
        self.check_taken(0, 0, 5, 4, 10)
        self.check_taken(-17, 23, 1, 7, 3)

    def test_width_and_height_at_their_bounds(self):
        for width, height in ((1, 1), (40, 1), (1, 40), (40, 40)):
            self.check_taken(0, 0, width, height, 10)

    def test_width_beyond_its_bounds(self):
        for width in (0, 41, -1, -40, HUGE, -HUGE):
            self.check_refused(0, 0, width, 4, 10)

    def test_height_beyond_its_bounds(self):
        for height in (0, 41, -1, -40, HUGE, -HUGE):
            self.check_refused(0, 0, 5, height, 10)

    def test_size_at_its_bounds(self):
        for size in (1, 100000):
            self.check_taken(0, 0, 2, 3, size)

    def test_size_beyond_its_bounds(self):
        for size in (0, 100001, -1, HUGE, -HUGE):
            self.check_refused(0, 0, 5, 4, size)

    def test_origin_at_its_bounds(self):
        for left, low in ((FAR, 0), (-FAR, 0), (0, FAR), (0, -FAR), (FAR, -FAR), (-FAR, FAR)):
            self.check_taken(left, low, 40, 40, 100000)

    def test_left_beyond_its_bounds(self):
        for left in (FAR + 1, -FAR - 1, HUGE, -HUGE):
            self.check_refused(left, 0, 5, 4, 10)

    def test_low_beyond_its_bounds(self):
        for low in (FAR + 1, -FAR - 1, HUGE, -HUGE):
            self.check_refused(0, low, 5, 4, 10)

    def test_all_cells_are_clear_also_on_a_grid_of_the_same_kind(self):
        self.check(
            (begin(0, 0, 3, 2, 1), [0]),
            (invert(), [0]),
            (text(), "###/###"),
            (begin(0, 0, 3, 2, 1), [0]),
            (text(), ".../..."),
        )

    def test_a_new_grid_takes_the_place_of_the_old_one(self):
        self.check(
            (begin(100, 100, 3, 2, 7), [0]),
            (invert(), [0]),
            (begin(0, 0, 2, 3, 1), [0]),
            (text(), "../../.."),
            (paint("0 0 0\nr 0 1 2 1 1"), [0, 1]),
            (text(), ".#/../.."),
            (at(2, 0), [-2]),
            (at(0, 2), [0, 0]),
        )

    def test_a_refusal_at_the_beginning_leaves_the_first_grid(self):
        self.check((begin(0, 0, 0, 4, 10), [-1]), (text(), "."))
