"""Points 2 and 3: which texts are picture texts, and that all others are refused with -5."""

from tests.calls import CallCase, begin, coded, erase, invert, paint, text

FAR = 1000000000
# Just the cell 0, 0 of the grid that these tests paint on.
ONE = "r 0 0 0 1 1"
SIGN_FIELDS = ("s", "a", "0", "0", "0", "0", "0", "1", "1", "0")
RULE_FIELDS = ("r", "0", "0", "0", "1", "1")
HEAD_FIELDS = ("0", "0", "0")

NOT_NUMBERS = ("", "+1", "+0", "-0", "00", "01", "-01", "007", "-", "--1", "1-", "1.0", "1,0", "1e3", "0x1", "a", "1a",
               "1_0", "\t1", "1\t", "1\r", "\x00", "/", ":", "\xb2", "\xb9", "\xff")
BELOW = ("-1", "-7", str(-FAR))
TOO_FAR = (str(FAR + 1), str(-FAR - 1), "9" * 10, "1" * 11, "-" + "1" * 11, "1" + "0" * 5000, "-" + "9" * 16000)


def with_field(fields, place, field):
    return " ".join(fields[:place] + (field,) + fields[place + 1:])


class PictureCase(CallCase):
    def check_taken(self, picture):
        """The picture is one, and touches just the one cell."""
        self.check((paint(picture), [0, 1]), (text(), "#"))
        self.check((invert(), [0]), (erase(picture), [0, 1]), (text(), "."))

    def check_refused(self, picture):
        self.check((paint(picture), [-5]), (text(), "."))
        self.check((invert(), [0]), (erase(picture), [-5]), (text(), "#"))

    def check_head_taken(self, head):
        self.check((paint(head), [0, 0]))
        self.check_taken(head + "\n" + ONE)

    def check_head_refused(self, head):
        self.check_refused(head)
        self.check_refused(head + "\n" + ONE)

    def check_mark_taken(self, mark):
        self.check_taken("0 0 0\n" + ONE + "\n" + mark)
        self.check_taken("0 0 0\n" + mark + "\n" + ONE)

    def check_mark_refused(self, mark):
        self.check_refused("0 0 0\n" + mark)
        self.check_refused("0 0 0\n" + ONE + "\n" + mark)
        self.check_refused("0 0 0\n" + mark + "\n" + ONE)


class Heads(PictureCase):
    def test_ordinary(self):
        for head in ("0 0 0", "30 20 0", "7 8 9", "10 100 1000", "1 0 10"):
            self.check_head_taken(head)

    def test_height_and_depth_below_0(self):
        for head in ("0 -1 0", "0 0 -1", "5 -3 -4", "0 %d %d" % (-FAR, -FAR)):
            self.check_head_taken(head)

    def test_a_width_below_0(self):
        for width in BELOW:
            self.check_head_refused(width + " 0 0")

    def test_at_and_beyond_the_farthest(self):
        self.check_head_taken("%d %d %d" % (FAR, FAR, FAR))
        for place in range(3):
            for far in TOO_FAR:
                self.check_refused(with_field(HEAD_FIELDS, place, far))

    def test_numbers_that_are_not_just_so(self):
        for place in range(3):
            for wrong in NOT_NUMBERS:
                self.check_head_refused(with_field(HEAD_FIELDS, place, wrong))

    def test_more_or_fewer_numbers(self):
        for head in ("0", "0 0", "0 0 0 0", "0 0 0 ", " 0 0 0", "0  0 0", "0 0  0", "000", " ", "  ", "s 0 0 0"):
            self.check_head_refused(head)

    def test_an_empty_text(self):
        self.check_refused("")
        self.check_refused([])

    def test_no_first_line(self):
        self.check_refused(ONE)
        self.check_refused("\n" + ONE)
        self.check_refused("\n0 0 0\n" + ONE)


class Lines(PictureCase):
    def test_byte_10_at_an_end(self):
        for picture in ("0 0 0", "0 0 0\n" + ONE):
            for wrong in (picture + "\n", "\n" + picture, picture + "\n\n", "\n", "\n\n"):
                self.check_refused(wrong)

    def test_an_empty_line_between(self):
        self.check_refused("0 0 0\n\n" + ONE)
        self.check_refused("0 0 0\n" + ONE + "\n\n" + ONE)

    def test_blank_at_an_end_of_a_line(self):
        for mark in (ONE, " ".join(SIGN_FIELDS)):
            self.check_mark_refused(mark + " ")
            self.check_mark_refused(" " + mark)
        self.check_refused("0 0 0\n" + ONE + "\n ")

    def test_other_line_ends(self):
        for end in ("\r\n", "\r", "/", "\x0b", "\x0c", "\x85", " "):
            self.check_refused("0 0 0" + end + ONE)

    def test_other_blanks(self):
        for blank in ("\t", "\xa0", "  ", "\x00", ""):
            self.check_refused(blank.join(HEAD_FIELDS))
            self.check_mark_refused(blank.join(RULE_FIELDS))
            self.check_mark_refused(blank.join(SIGN_FIELDS))

    def test_two_blanks_anywhere(self):
        for fields in (RULE_FIELDS, SIGN_FIELDS):
            for place in range(1, len(fields)):
                self.check_mark_refused(" ".join(fields[:place]) + "  " + " ".join(fields[place:]))

    def test_one_field_more_or_fewer(self):
        for fields in (RULE_FIELDS, SIGN_FIELDS):
            self.check_mark_refused(" ".join(fields + ("0",)))
            for place in range(len(fields)):
                self.check_mark_refused(" ".join(fields[:place] + fields[place + 1:]))

    def test_other_kinds_of_marks(self):
        for kind in ("", "t", "S", "R", "ss", "rr", "rs", "sr", "0", "1", "\xff"):
            self.check_mark_refused(with_field(RULE_FIELDS, 0, kind))
            self.check_mark_refused(with_field(SIGN_FIELDS, 0, kind))
        self.check_mark_refused(with_field(RULE_FIELDS, 0, "s"))
        self.check_mark_refused(with_field(SIGN_FIELDS, 0, "r"))

    def test_bytes_of_all_kinds_alone(self):
        for byte in range(256):
            self.check_refused([byte])

    def test_marks_need_not_lie_inside(self):
        self.check_taken("0 0 0\nr 0 0 0 1 1")
        self.check_taken("0 0 0\nr 0 -5 -5 10 10")
        self.check_taken("0 -9 -9\ns a 0 0 0 0 0 1 1 1")


class Names(PictureCase):
    def name_in_sign(self, name):
        return coded("0 0 0\n") + coded("s ") + coded(name) + coded(" 0 0 0 0 0 1 1 0")

    def test_one_byte(self):
        for byte in range(256):
            picture = self.name_in_sign([byte])
            if 33 <= byte <= 126:
                self.check_taken(picture)
            else:
                self.check_refused(picture)

    def test_small_letters(self):
        for name in ("ab", "az", "za", "zz", "sum", "s", "r", "abcdefghijk", "abcdefghijkl", "a" * 12, "z" * 12):
            self.check_taken(self.name_in_sign(name))

    def test_wrong_names(self):
        for name in ("", "a" * 13, "z" * 13, "a" * 100, "A" * 2, "aB", "Ab", "a1", "1a", "12", "a-", "-1", "a_b", "a{", "`a",
                     "[a", "@a", "##", "a\xe4", "\xe4a", "abcdefghijkL", "a\tb", "!!"):
            self.check_refused(self.name_in_sign(name))


class SignNumbers(PictureCase):
    def test_sizes(self):
        for size in ("0", "1", "2"):
            self.check_mark_taken(with_field(SIGN_FIELDS, 2, size))
        for size in ("3", "4", "10", "12", "22", "-1", "-2", str(FAR)) + NOT_NUMBERS + TOO_FAR[:4]:
            self.check_mark_refused(with_field(SIGN_FIELDS, 2, size))

    def test_node_and_piece(self):
        for place in (3, 4):
            for number in ("0", "1", "9", "10", "11", "100", "999999999", str(FAR)):
                self.check_mark_taken(with_field(SIGN_FIELDS, place, number))

    def test_places_at_the_farthest(self):
        for place in (5, 6):
            for number in ("0", "-1", "-10", "1", str(FAR), str(-FAR), "999999999", "-999999999"):
                self.check_mark_taken(with_field(SIGN_FIELDS, place, number))

    def test_width_height_depth_at_the_farthest(self):
        for place in (7, 8, 9):
            for number in ("0", "1", str(FAR)):
                self.check_mark_taken(with_field(SIGN_FIELDS, place, number))

    def test_numbers_that_must_be_from_0_on(self):
        for place in (2, 3, 4, 7, 8, 9):
            for number in BELOW:
                self.check_mark_refused(with_field(SIGN_FIELDS, place, number))

    def test_beyond_the_farthest(self):
        for place in range(2, 10):
            for number in TOO_FAR:
                self.check_mark_refused(with_field(SIGN_FIELDS, place, number))

    def test_numbers_that_are_not_just_so(self):
        for place in range(2, 10):
            for number in NOT_NUMBERS:
                self.check_mark_refused(with_field(SIGN_FIELDS, place, number))


class RuleNumbers(PictureCase):
    def test_nodes(self):
        for number in ("0", "1", "10", "999999999", str(FAR)):
            self.check_mark_taken(with_field(RULE_FIELDS, 1, number))

    def test_places_at_the_farthest(self):
        for place in (2, 3):
            for number in ("0", "-1", "1", str(FAR), str(-FAR)):
                self.check_mark_taken(with_field(RULE_FIELDS, place, number))

    def test_width_and_height_at_the_farthest(self):
        for place in (4, 5):
            for number in ("0", "1", str(FAR)):
                self.check_mark_taken(with_field(RULE_FIELDS, place, number))

    def test_numbers_that_must_be_from_0_on(self):
        for place in (1, 4, 5):
            for number in BELOW:
                self.check_mark_refused(with_field(RULE_FIELDS, place, number))

    def test_beyond_the_farthest(self):
        for place in range(1, 6):
            for number in TOO_FAR:
                self.check_mark_refused(with_field(RULE_FIELDS, place, number))

    def test_numbers_that_are_not_just_so(self):
        for place in range(1, 6):
            for number in NOT_NUMBERS:
                self.check_mark_refused(with_field(RULE_FIELDS, place, number))

    def test_the_sum_of_place_and_width_may_be_beyond_the_farthest(self):
        self.check((begin(FAR, FAR, 1, 1, 1), [0]), (paint("0 0 0\nr 0 %d %d %d %d" % (FAR, FAR, FAR, FAR)), [0, 1]))


class ManyMarks(PictureCase):
    def test_1000_marks(self):
        self.check_taken("\n".join(["0 0 0"] + [ONE] * 1000))

    def test_1001_marks(self):
        for picture in ("\n".join(["0 0 0"] + [ONE] * 1001), "\n".join(["0 0 0"] + ["r 0 9 9 0 0"] * 1001)):
            self.check((paint(picture), [-5]), (text(), "."))
            self.check((invert(), [0]), (erase(picture), [-5]), (text(), "#"))

    def test_1000_marks_each_of_its_own_cell(self):
        marks = ["r 0 %d %d 1 1" % (number % 40, number // 40) for number in range(1000)]
        rows = ["." * 40] * 15 + ["#" * 40] * 25
        self.check((begin(0, 0, 40, 40, 1), [0]), (paint("\n".join(["0 0 0"] + marks)), [0, 1000]),
                   (text(), "/".join(rows)))

    def test_the_last_of_1000_marks_counts_and_is_checked(self):
        marks = ["r 0 9 9 0 0"] * 999
        self.check_taken("\n".join(["0 0 0"] + marks + [ONE]))
        self.check_refused("\n".join(["0 0 0"] + marks + ["r 0 0 0 1 -1"]))
