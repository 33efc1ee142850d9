"""Points 2 and 3: paint and erase, and which cells a mark touches."""

from tests.calls import CallCase, begin, erase, invert, lines, paint, picture, read, rule, sign, text


class Touching(CallCase):
    """Marks on a grid of 4 by 3 cells of the size 10, whose origin is -20, -10."""

    def check_marks(self, marks, changed, expected):
        self.check((begin(-20, -10, 4, 3, 10), [0]), (paint(picture(*marks)), [0, changed]), (text(), expected))
        clear_there = expected.translate(str.maketrans("#.", ".#"))
        self.check((begin(-20, -10, 4, 3, 10), [0]), (invert(), [0]),
                   (erase(picture(*marks)), [0, changed]), (text(), clear_there))

    def test_no_marks(self):
        self.check_marks((), 0, "..../..../....")

    def test_the_pictures_own_box_paints_nothing(self):
        self.check((begin(0, 0, 2, 2, 10), [0]), (paint("20 20 0"), [0, 0]), (text(), "../.."))

    def test_a_rule_of_just_one_cell(self):
        self.check_marks((rule(0, 0, 10, 10),), 1, "..../..#./....")

    def test_a_rule_that_ends_just_at_the_sides(self):
        self.check_marks((rule(-10, -10, 20, 20),), 4, "..../.##./.##.")

    def test_a_rule_one_beyond_each_side(self):
        self.check_marks((rule(0, 0, 11, 10),), 2, "..../..##/....")
        self.check_marks((rule(-1, 0, 11, 10),), 2, "..../.##./....")
        self.check_marks((rule(0, 0, 10, 11),), 2, "..#./..#./....")
        self.check_marks((rule(0, -1, 10, 11),), 2, "..../..#./..#.")

    def test_a_rule_one_short_of_each_side(self):
        self.check_marks((rule(1, 1, 8, 8),), 1, "..../..#./....")

    def test_one_point(self):
        self.check_marks((rule(9, 9, 1, 1),), 1, "..../..#./....")
        self.check_marks((rule(10, 9, 1, 1),), 1, "..../...#/....")
        self.check_marks((rule(9, 10, 1, 1),), 1, "..#./..../....")
        self.check_marks((rule(-1, -1, 1, 1),), 1, "..../..../.#..")
        self.check_marks((rule(0, -1, 1, 1),), 1, "..../..../..#.")

    def test_marks_without_points(self):
        self.check_marks((rule(0, 0, 0, 10), rule(0, 0, 10, 0), rule(5, 5, 0, 0)), 0, "..../..../....")
        self.check_marks((rule(5, 5, 0, 3), rule(5, 5, 3, 0)), 0, "..../..../....")
        self.check_marks((sign(0, 0, 0, 10, 10), sign(0, 0, 10, 0, 0), sign(5, 5, 0, 0, 0)), 0, "..../..../....")

    def test_a_signs_depth_reaches_down(self):
        self.check_marks((sign(0, 0, 10, 10, 10),), 2, "..../..#./..#.")
        self.check_marks((sign(0, 0, 10, 0, 10),), 1, "..../..../..#.")
        self.check_marks((sign(0, 0, 10, 10, 0),), 1, "..../..#./....")
        self.check_marks((sign(0, 0, 10, 10, 1),), 2, "..../..#./..#.")
        self.check_marks((sign(0, 10, 10, 0, 1),), 1, "..../..#./....")
        self.check_marks((sign(0, 10, 10, 1, 0),), 1, "..#./..../....")

    def test_a_signs_height_and_width_are_told_apart(self):
        self.check_marks((sign(-20, -10, 40, 10, 0),), 4, "..../..../####")
        self.check_marks((sign(-20, -10, 10, 30, 0),), 3, "#.../#.../#...")

    def test_a_rules_height_and_width_are_told_apart(self):
        self.check_marks((rule(-20, 0, 40, 1),), 4, "..../####/....")
        self.check_marks((rule(10, -10, 1, 30),), 3, "...#/...#/...#")

    def test_partly_off_the_grid(self):
        self.check_marks((rule(-30, -20, 11, 11),), 1, "..../..../#...")
        self.check_marks((rule(19, 19, 11, 11),), 1, "...#/..../....")
        self.check_marks((rule(-1000, 0, 2000, 1),), 4, "..../####/....")
        self.check_marks((rule(0, -1000, 1, 2000),), 3, "..#./..#./..#.")
        self.check_marks((rule(-1000, -1000, 2000, 2000),), 12, "####/####/####")
        self.check_marks((sign(-1000, 0, 2000, 1000, 1000),), 12, "####/####/####")

    def test_wholly_off_the_grid(self):
        for mark in (rule(-30, 0, 10, 10), rule(20, 0, 10, 10), rule(0, -20, 10, 10), rule(0, 20, 10, 10),
                     rule(-30, -20, 10, 10), rule(20, 20, 10, 10), rule(-500, 500, 3, 3), sign(20, 0, 5, 5, 5),
                     sign(0, -10, 10, 0, 10), sign(0, 20, 10, 10, 0)):
            self.check_marks((mark,), 0, "..../..../....")

    def test_marks_beside_the_grid_in_one_direction_alone(self):
        self.check_marks((rule(-30, -10, 10, 30),), 0, "..../..../....")
        self.check_marks((rule(-20, 20, 40, 10),), 0, "..../..../....")

    def test_several_marks(self):
        marks = (rule(-20, -10, 10, 10), sign(10, 20, 10, 0, 10), rule(0, 0, 1, 1))
        self.check_marks(marks, 3, "...#/..#./#...")

    def test_marks_far_away_and_very_large(self):
        far = 1000000000
        self.check_marks((rule(far, far, far, far), rule(-far, -far, 0, 0)), 0, "..../..../....")
        self.check_marks((rule(-far, -far, far, far),), 2, "..../..../##..")
        self.check_marks((sign(-far, far, far, far, far),), 4, "##../##../....")


class Origins(CallCase):
    def check_one(self, origin, size, marks, expected):
        self.check((begin(origin[0], origin[1], 3, 3, size), [0]),
                   (paint(picture(*marks)), [0, expected.count("#")]), (text(), expected))

    def test_the_size_1(self):
        self.check_one((0, 0), 1, (rule(1, 0, 1, 2),), ".../.#./.#.")
        self.check_one((-5, 7), 1, (rule(-5, 9, 2, 1),), "##./.../...")

    def test_origins_that_are_no_multiples_of_the_size(self):
        self.check_one((-7, 5), 4, (rule(-4, 8, 1, 1),), ".../.../#..")
        self.check_one((-7, 5), 4, (rule(-3, 9, 1, 1),), ".../.#./...")
        self.check_one((-7, 5), 4, (rule(-4, 8, 2, 2),), ".../##./##.")
        self.check_one((-7, 5), 4, (rule(-8, 4, 1, 1),), ".../.../...")
        self.check_one((-7, 5), 4, (rule(5, 16, 1, 1),), ".../.../...")
        self.check_one((-7, 5), 4, (rule(4, 16, 1, 1),), "..#/.../...")

    def test_the_farthest_origins_and_the_greatest_size(self):
        far = 1000000000
        self.check_one((far, far), 100000, (rule(far, far, 1, 1),), ".../.../#..")
        self.check_one((far, far), 100000, (rule(far, far, 100001, 100000),), ".../.../##.")
        self.check_one((-far, -far), 100000, (rule(-far, -far, far, 1),), ".../.../###")
        self.check_one((-far, far), 100000, (sign(-999800001, far, 2, 200001, far),), ".##/.##/.##")


class HowMany(CallCase):
    def test_a_cell_that_several_marks_touch_counts_once(self):
        marks = picture(rule(0, 0, 2, 1), rule(1, 0, 2, 1), rule(0, 0, 3, 1), rule(1, 0, 1, 1))
        self.check((begin(0, 0, 4, 2, 1), [0]), (paint(marks), [0, 3]), (text(), "..../###."),
                   (paint(marks), [0, 0]), (text(), "..../###."),
                   (erase(marks), [0, 3]), (text(), "..../...."),
                   (erase(marks), [0, 0]), (text(), "..../...."))

    def test_cells_that_are_so_already_do_not_count(self):
        self.check((begin(0, 0, 4, 2, 1), [0]), (read(lines("#..#/.##.")), [0]),
                   (paint(picture(rule(0, 0, 4, 1))), [0, 2]), (text(), "#..#/####"),
                   (erase(picture(rule(0, 1, 4, 1))), [0, 2]), (text(), "..../####"),
                   (erase(picture(rule(1, 0, 2, 2))), [0, 2]), (text(), "..../#..#"),
                   (paint(picture(rule(0, 0, 4, 2))), [0, 6]), (text(), "####/####"))

    def test_two_marks_in_one_cell(self):
        marks = picture(rule(0, 0, 1, 1), sign(9, 9, 1, 1, 0))
        self.check((begin(0, 0, 1, 1, 10), [0]), (paint(marks), [0, 1]), (erase(marks), [0, 1]))

    def test_a_refusal_leaves_the_grid_as_it_was(self):
        broken = picture(rule(0, 0, 4, 2)) + "\n"
        half_broken = picture(rule(0, 0, 4, 2), "r 0 0 0 1")
        for wrong in (broken, half_broken, "", "x"):
            self.check((begin(0, 0, 4, 2, 1), [0]), (read(lines("#..#/.##.")), [0]),
                       (paint(wrong), [-5]), (text(), "#..#/.##."),
                       (erase(wrong), [-5]), (text(), "#..#/.##."),
                       (paint(picture(rule(0, 0, 1, 1))), [0, 1]), (text(), "#..#/###."))
