"""The interface: one list in, one list out, nothing changed, kept or printed."""

import contextlib
import io
import unittest

from cellpaint.grid import answers
from tests.calls import (CallCase, area, at, begin, coded, count, edge, erase, fill, grow, holes, invert, joined, keep,
                         lines, marks, paint, piece, pieces, read, run, runs, set_cell, shrink, text)

ALL_CALLS = joined((
    begin(0, 0, 3, 2, 10), paint("0 0 0\nr 0 0 0 11 1"), text(), erase("0 0 0\nr 0 0 0 1 1"), set_cell(2, 1, 1),
    invert(), grow(1), shrink(1), read(lines("#../..#")), at(0, 1), paint("no picture"), begin(0, 0, 0, 0, 0),
    set_cell(5, 5, 1), set_cell(0, 0, 5), at(-1, 0), text(), area(), runs(1), pieces(), piece(2, 0), piece(0, 1),
    marks(0, "0 0 0\nr 0 0 0 1 1\nr 0 20 0 1 1"), keep(1), edge(), count(), begin(-1, -1, 3, 3, 1),
    read(lines("###/#.#/###")), holes(), fill(), runs(3), piece(3, 0), piece(0, 0), keep(5), marks(5, ""), marks(0, ""),
    text(),
))
ALL_ANSWERS = [
    1, 0, 2, 0, 2, 8, 0, 46, 46, 46, 10, 35, 35, 46, 2, 0, 1, 1, 0,
    1, 0, 2, 0, 2, 2, 0, 0, 1, 0, 2, 0, 1, 1, -5, 1, -1,
    1, -2, 1, -1, 1, -2, 8, 0, 35, 46, 46, 10, 46, 46, 35, 2, 0, 2, 3, 0, 0, 1, 3, 0, 1, 1, 2, 0, 0, 2, 0, 1,
    2, 0, 1, 2, 0, 1, 2, 0, 4, 5, 0, 1, 0, 0, 1, 1, 0,
    1, 0, 2, 0, 1, 2, 0, 1, 1, -2, 1, -2, 2, 0, 0, 1, -3, 1, -3, 1, -5,
    12, 0, 35, 35, 35, 10, 35, 35, 35, 10, 35, 35, 35,
]


class Unchangeable(list):
    """A list that tells when it's changed, also if only for a while."""

    def refuse(self, *given):
        raise AssertionError("what was handed in was changed")

    append = extend = insert = pop = remove = reverse = sort = clear = refuse
    __setitem__ = __delitem__ = __iadd__ = __imul__ = refuse


class OneList(CallCase):
    def test_each_call_has_its_number(self):
        self.assertEqual(answers([0, 0, 0, 2, 1, 1]), [1, 0])
        self.assertEqual(answers([1, 0]), [1, -5])
        self.assertEqual(answers([1] + [len("0 0 0\nr 0 0 0 1 1")] + coded("0 0 0\nr 0 0 0 1 1")), [2, 0, 1])
        self.assertEqual(answers([2] + [5] + coded("0 0 0")), [2, 0, 0])
        self.assertEqual(answers([3, 0, 0, 1]), [1, 0])
        self.assertEqual(answers([4]), [1, 0])
        self.assertEqual(answers([5, 1]), [2, 0, 0])
        self.assertEqual(answers([6, 1]), [2, 0, 0])
        self.assertEqual(answers([7]), [2, 0, 46])
        self.assertEqual(answers([8, 1, 35]), [1, 0])
        self.assertEqual(answers([9, 0, 0]), [2, 0, 0])
        self.assertEqual(answers([4, 10]), [1, 0, 2, 0, 1])
        self.assertEqual(answers([4, 11, 0]), [1, 0, 3, 0, 0, 1])
        self.assertEqual(answers([4, 12]), [1, 0, 2, 0, 1])
        self.assertEqual(answers([4, 13, 0, 0]), [1, 0, 2, 0, 0])
        self.assertEqual(answers([4, 14, 0]), [1, 0, 2, 0, 0])
        self.assertEqual(answers([4, 15]), [1, 0, 2, 0, 0])
        self.assertEqual(answers([4, 16]), [1, 0, 2, 0, 0])
        self.assertEqual(answers([4, 17]), [1, 0, 2, 0, 4])
        self.assertEqual(answers([4, 18]), [1, 0, 5, 0, 1, 0, 0, 1])
        self.assertEqual(answers([4, 19, 0, 5] + coded("0 0 0")), [1, 0, 1, 0])
        self.assertEqual(answers([4, 19, 0, 17] + coded("0 0 0\nr 0 0 0 1 1")), [1, 0, 2, 0, 0])

    def test_all_calls_one_behind_another(self):
        self.assertEqual(answers(list(ALL_CALLS)), ALL_ANSWERS)

    def test_refused_calls_are_gone_past_whole(self):
        self.check((begin(7, 7, 7, 0, 7), [-1]), (paint([7] * 20), [-5]), (erase([4, 4, 4]), [-5]),
                   (set_cell(4, 4, 4), [-2]), (set_cell(0, 0, 4), [-1]), (grow(-4), [-1]), (shrink(104), [-1]),
                   (read([4, 4]), [-5]), (at(4, 4), [-2]), (runs(4), [-2]), (piece(4, 4), [-2]), (piece(0, 0), [-3]),
                   (keep(4), [-3]), (marks(4, [4, 4, 4]), [-3]), (text(), "."), (set_cell(0, 0, 1), [0]),
                   (marks(0, [4, 4, 4]), [-5]), (marks(4, "0 0 0"), [-3]), (text(), "#"))

    def test_rows_hold_numbers_that_are_calls_too(self):
        self.check((read([7, 7, 7]), [-5]), (paint([]), [-5]), (read([]), [-5]), (read([35]), [0]), (text(), "#"))

    def test_200_calls(self):
        steps = [(begin(0, 0, 40, 40, 1), [0])]
        for number in range(99):
            i, j = number % 40, number // 40 * 5
            steps.extend([(set_cell(i, j, 1), [0]), (at(i, j), [0, 1])])
        steps.append((grow(100), [0, 1600 - 99]))
        self.assertEqual(len(steps), 200)
        self.check(*steps)

    def test_200_great_texts(self):
        found = run(begin(0, 0, 40, 40, 1), *[text()] * 199)
        self.assertEqual(found[1:], [[0] + coded("\n".join(["." * 40] * 40))] * 199)

    def test_200_times_far_over_the_greatest_grid(self):
        steps = [(begin(0, 0, 40, 40, 1), [0])]
        for time in range(49):
            steps.extend([(set_cell(0, 0, 1), [0]), (grow(100), [0, 1599]),
                          (set_cell(39, 39, 0), [0]), (shrink(100), [0, 1599])])
        self.check(*steps)

    def test_200_times_all_over_the_greatest_grid(self):
        steps = [(begin(0, 0, 40, 40, 1), [0]), (invert(), [0]), (set_cell(20, 20, 0), [0])]
        for time in range(19):
            steps.extend([(area(), [0, 1599]), (pieces(), [0, 1599]), (piece(39, 39), [0, 0]), (keep(0), [0, 0]),
                          (holes(), [0, 1]), (fill(), [0, 1]), (edge(), [0, 160]), (count(), [0, 1600, 3120, 1521, 1]),
                          (set_cell(20, 20, 0), [0]), (edge(), [0, 164])])
        self.check(*steps)

    def test_a_list_of_17000_numbers(self):
        mark = "\nr 0 0 0 1 1"
        picture = "0 0 0" + mark * 700
        rest = 17000 - len(paint(picture)) - len(begin(0, 0, 1, 1, 1)) - 2
        calls = joined((begin(0, 0, 1, 1, 1), paint(picture), read([35] * rest)))
        self.assertEqual(len(calls), 17000)
        self.assertEqual(answers(calls), [1, 0, 2, 0, 1, 1, -5])

    def test_marks_in_a_list_of_17000_numbers(self):
        told = "0 0 0" + "\nr 0 0 0 50 50" * 600
        rest = "0 0 0" + "\nr 0 0 0 50 50" * 576
        rest += " " * (17000 - len(joined((begin(0, 0, 40, 40, 1), invert(), marks(0, told), marks(0, rest)))))
        calls = joined((begin(0, 0, 40, 40, 1), invert(), marks(0, told), marks(0, rest)))
        self.assertEqual(len(calls), 17000)
        self.assertEqual(answers(calls), [1, 0, 1, 0, 601, 0] + list(range(600)) + [1, -5])

    def test_the_greatest_and_least_numbers(self):
        huge = 10 ** 18
        for number in (huge, -huge):
            self.check((begin(number, number, number, number, number), [-1]), (set_cell(number, number, number), [-2]),
                       (set_cell(0, 0, number), [-1]), (grow(number), [-1]), (shrink(number), [-1]),
                       (at(number, number), [-2]), (runs(number), [-2]), (piece(number, number), [-2]),
                       (keep(number), [-3]), (marks(number, "0 0 0"), [-3]), (text(), "."))


class NothingElse(unittest.TestCase):
    def test_the_list_is_equal_afterwards(self):
        calls = list(ALL_CALLS)
        answers(calls)
        self.assertEqual(calls, ALL_CALLS)

    def test_the_list_is_not_changed_for_a_while_either(self):
        self.assertEqual(answers(Unchangeable(ALL_CALLS)), ALL_ANSWERS)

    def test_nothing_is_kept(self):
        self.assertEqual(answers([0, 5, 5, 2, 2, 3, 4, 7]), [1, 0, 1, 0, 6, 0, 35, 35, 10, 35, 35])
        self.assertEqual(answers([7, 9, 1, 1]), [2, 0, 46, 1, -2])
        self.assertEqual(answers(list(ALL_CALLS)), answers(list(ALL_CALLS)))

    def test_what_is_given_back_is_new_each_time(self):
        first = answers([7])
        first.append(99)
        self.assertEqual(answers([7]), [2, 0, 46])

    def test_nothing_is_printed(self):
        out, wrong = io.StringIO(), io.StringIO()
        with contextlib.redirect_stdout(out), contextlib.redirect_stderr(wrong):
            answers(list(ALL_CALLS))
        self.assertEqual((out.getvalue(), wrong.getvalue()), ("", ""))
