"""Point 20: marks."""

from tests.calls import CallCase, begin, invert, lines, marks, picture, pieces, read, rule, set_cell, sign, text

HUGE = 10 ** 18
# The piece 0 is from 0, -10 to 20, 0; the piece 1 from -20, 10 to 0, 20.
TWO_PIECES = "##../..../..##"
WRONG_TEXTS = ("", "0 0", "0 0 0\n", "no picture", "0 0 0\nr 0 0 0 1", "0 0 0\nr 0 0 0 1 -1", "-1 0 0", "0 0 0\nr 0 0 0 1 1 ",
               "0 0 0\ns ab1 0 0 0 0 0 1 1 1", "0 0 0\ns a 3 0 0 0 0 1 1 1", "0 0 0\nr 0 1000000001 0 1 1")


class Marks(CallCase):
    def check_marks(self, told, *expected):
        """On a grid of 4 by 3 cells of the size 10, whose origin is -20, -10, these marks touch the pieces so."""
        self.check((begin(-20, -10, 4, 3, 10), [0]), (read(lines(TWO_PIECES)), [0]), (pieces(), [0, 2, 2]),
                   *[(marks(k, picture(*told)), [0] + numbers) for k, numbers in enumerate(expected)],
                   (text(), TWO_PIECES))

    def test_no_marks(self):
        self.check_marks((), [], [])

    def test_one_piece_each(self):
        self.check_marks((rule(0, -10, 1, 1),), [0], [])
        self.check_marks((rule(-20, 10, 1, 1),), [], [0])

    def test_several_in_their_order(self):
        self.check_marks((rule(-20, 10, 1, 1), rule(19, -1, 1, 1), rule(-20, -10, 1, 1), rule(0, -10, 20, 10),
                          rule(-1, 19, 5, 5), rule(19, -1, 1, 1)), [1, 3, 5], [0, 4])

    def test_both_pieces(self):
        self.check_marks((rule(-20, -10, 40, 30), rule(-1, -1, 2, 12), rule(-1000, -1000, 3000, 3000)),
                         [0, 1, 2], [0, 1, 2])

    def test_clear_cells_alone(self):
        self.check_marks((rule(-20, -10, 20, 20), rule(-20, 0, 40, 10), rule(0, 0, 20, 20)), [], [])

    def test_no_cell(self):
        self.check_marks((rule(20, -10, 5, 5), rule(0, -15, 5, 5), rule(-25, 10, 5, 5), rule(-20, 20, 5, 5),
                          rule(100, 100, 5, 5), rule(-1000000000, -1000000000, 5, 5)), [], [])

    def test_boxes_that_end_just_at_a_piece(self):
        self.check_marks((rule(-5, -10, 5, 10), rule(-5, -10, 6, 10), rule(0, -15, 20, 5), rule(0, -15, 20, 6),
                          rule(0, 0, 20, 5), rule(0, -1, 20, 5), rule(20, -10, 5, 10), rule(19, -10, 5, 10)),
                         [1, 3, 5, 7], [])

    def test_boxes_with_no_points(self):
        self.check_marks((rule(5, -5, 0, 0), rule(5, -5, 0, 3), rule(5, -5, 3, 0), rule(5, -5, 1, 1),
                          sign(5, -5, 0, 3, 3), sign(5, -5, 3, 0, 0), rule(-100, -5, 0, 200)), [3], [])

    def test_signs(self):
        self.check_marks((sign(0, 0, 5, 0, 1), sign(0, -10, 5, 0, 1), sign(0, -10, 5, 1, 0), sign(-20, 30, 5, 5, 11),
                          sign(-20, 30, 5, 5, 10), sign(-1, 5, 2, 6, 6)), [0, 2, 5], [3, 5])

    def test_signs_and_rules_are_numbered_together(self):
        self.check_marks((sign(5, -5, 1, 1, 0), rule(5, -5, 1, 1), rule(90, 90, 1, 1), sign(5, -5, 1, 1, 0)),
                         [0, 1, 3], [])

    def test_within_a_hole_and_round_a_bend(self):
        self.check((begin(-50, -50, 5, 5, 20), [0]), (read(lines("#####/#...#/#.#.#/#...#/#####")), [0]),
                   (marks(0, picture(rule(-30, -30, 60, 60), rule(-30, -30, 61, 60), rule(-10, -10, 20, 20))), [0, 1]),
                   (marks(1, picture(rule(-30, -30, 60, 60), rule(-30, -30, 20, 60), rule(-10, -10, 20, 20))),
                    [0, 0, 2]))

    def test_only_the_cells_of_the_piece_not_what_is_touched_first(self):
        # The mark lies over cells of the piece 0, then of the piece 1, then of the piece 2.
        for k in range(3):
            self.check((begin(0, 0, 5, 1, 3), [0]), (read("#.#.#"), [0]),
                       (marks(k, picture(rule(0, 0, 15, 3), rule(6 * k, 1, 1, 1), rule(3, 0, 3, 3))), [0, 0, 1]))

    def test_far_origins_and_great_cells(self):
        for left, low in ((-10 ** 9, -10 ** 9), (-10 ** 9, 10 ** 9), (10 ** 9, -10 ** 9), (10 ** 9, 10 ** 9)):
            inner = rule(min(left, 10 ** 9 - 1), min(low, 10 ** 9 - 1), 10 ** 9, 10 ** 9)
            self.check((begin(left, low, 2, 2, 100000), [0]), (invert(), [0]),
                       (marks(0, picture(inner, rule(left, low, 0, 1), rule(left, low, 1, 1), rule(0, 0, 1, 1))),
                        [0, 0, 2]))

    def test_the_number_is_that_of_the_grid_as_it_is(self):
        one = picture(rule(2, 0, 1, 1))
        self.check((begin(0, 0, 3, 1, 1), [0]), (read("#.#"), [0]), (marks(0, one), [0]), (marks(1, one), [0, 0]),
                   (set_cell(1, 0, 1), [0]), (marks(0, one), [0, 0]), (marks(1, one), [-3]), (text(), "###"))

    def test_1000_marks(self):
        told = [rule(number % 2, 0, 1, 1) for number in range(1000)]
        self.check((begin(0, 0, 2, 1, 1), [0]), (read(".#"), [0]),
                   (marks(0, picture(*told)), [0] + list(range(1, 1000, 2))))
        self.check((begin(0, 0, 2, 1, 1), [0]), (read(".#"), [0]), (marks(0, picture(*told, rule(0, 0, 1, 1))), [-5]),
                   (text(), ".#"))


class Refused(CallCase):
    def check_refused(self, words, k, told, expected):
        rows = words.split("/")
        self.check((begin(-20, -10, len(rows[0]), len(rows), 10), [0]), (read(lines(words)), [0]),
                   (marks(k, told), [expected]), (text(), words))

    def test_no_such_piece(self):
        for k in (-1, -2, -3, 2, 3, 10 ** 9, HUGE, -HUGE):
            self.check_refused(TWO_PIECES, k, picture(rule(-20, -10, 40, 30)), -3)
            self.check_refused(TWO_PIECES, k, picture(), -3)

    def test_a_grid_all_clear(self):
        for k in (-1, 0, 1, HUGE, -HUGE):
            self.check_refused(".../...", k, picture(rule(-20, -10, 40, 30)), -3)

    def test_no_picture_text(self):
        for told in WRONG_TEXTS:
            for k in (0, 1):
                self.check_refused(TWO_PIECES, k, told, -5)

    def test_both_wrong_at_once(self):
        for told in WRONG_TEXTS:
            for k in (-1, 2, HUGE, -HUGE):
                self.check_refused(TWO_PIECES, k, told, -3)
            self.check_refused(".../...", 0, told, -3)
