"""Many lists of calls, their answers compared with those that the document's own words give cell by cell."""

import unittest

from tests import calls
from tests.model import Model

NAMES = ("begin", "paint", "erase", "set_cell", "invert", "grow", "shrink", "text", "read", "at")
HARD_NUMBERS = ("-0", "+1", "01", "", "1000000001", "-1000000001", "1000000000", "-1000000000", "-1", "3", "x")


class Numbers:
    """The same numbers each time, with no pattern that matters here."""

    def __init__(self, seed):
        self.state = seed

    def below(self, bound):
        self.state = (self.state * 6364136223846793005 + 1442695040888963407) % 2 ** 64
        return (self.state >> 33) % bound

    def between(self, least, greatest):
        return least + self.below(greatest - least + 1)

    def one_of(self, choices):
        return choices[self.below(len(choices))]


def mark_fields(numbers):
    place = [numbers.between(-30, 60), numbers.between(-30, 60)]
    sides = [numbers.between(0, 25), numbers.between(0, 25)]
    if numbers.below(2):
        return ["r", numbers.below(9)] + place + sides
    name = numbers.one_of(("a", "Z", "~", "!", "sum", "abcdefghijkl"))
    return ["s", name, numbers.below(3), numbers.below(9), numbers.below(9)] + place + sides + [numbers.below(20)]


def picture(numbers):
    rows = [[numbers.below(50), numbers.between(-50, 50), numbers.between(-50, 50)]]
    rows.extend([mark_fields(numbers) for mark in range(numbers.below(4))])
    if numbers.below(5) == 0:
        spoiled = numbers.one_of(rows)
        spoiled[numbers.below(len(spoiled))] = numbers.one_of(HARD_NUMBERS)
    words = "\n".join([" ".join([str(field) for field in row]) for row in rows])
    return calls.coded(words + ("\n" if numbers.below(20) == 0 else ""))


def grid_words(numbers, model):
    width = model.width + (numbers.below(12) == 0)
    height = model.height + (numbers.below(12) == 0)
    rows = ["".join([numbers.one_of("#.") for i in range(width)]) for j in range(height)]
    return calls.coded("\n".join(rows) + numbers.one_of(("",) * 15 + ("\n", "#", " ")))


def cell(numbers, model):
    return [numbers.between(-1, model.width), numbers.between(-1, model.height)]


def given_to(name, numbers, model):
    """Give what the call of this name is handed, number by number or as one text."""
    if name == "begin":
        sides = [numbers.between(0, 9), numbers.between(1, 9)]
        return [numbers.between(-20, 20), numbers.between(-20, 20)] + sides + [numbers.between(1, 12)]
    if name in ("paint", "erase"):
        return [picture(numbers)]
    if name == "set_cell":
        return cell(numbers, model) + [numbers.between(-1, 2) if numbers.below(4) == 0 else numbers.below(2)]
    if name in ("grow", "shrink"):
        return [numbers.one_of((0, 1, 1, 1, 2, 2, 3, 5, 100, -1, 101))]
    if name == "read":
        return [grid_words(numbers, model)]
    return cell(numbers, model) if name == "at" else []


class Compared(unittest.TestCase):
    def check_list(self, seed, many):
        numbers = Numbers(seed)
        model = Model()
        made = [calls.begin(-7, -9, 8, 7, 6)]
        expected = [model.begin(-7, -9, 8, 7, 6)]
        for step in range(many):
            # A new grid each few calls only, so that something comes to stand on it.
            name = numbers.one_of(NAMES if step % 9 == 0 else NAMES[1:])
            given = given_to(name, numbers, model)
            made.append(getattr(calls, name)(*given))
            expected.append(getattr(model, name)(*given))
            made.append(calls.text())
            expected.append(model.text())
        self.assertEqual(calls.run(*made), expected, "seed %d" % seed)

    def test_many_lists(self):
        for seed in range(150):
            self.check_list(seed, 60)

    def test_distances_on_a_great_grid(self):
        for seed in range(6):
            numbers = Numbers(seed)
            model = Model()
            model.begin(0, 0, 40, 31, 1)
            words = "\n".join(["".join([numbers.one_of("#" + "." * 60) for i in range(40)]) for j in range(31)])
            made = [calls.begin(0, 0, 40, 31, 1), calls.read(words), calls.grow(seed + 1), calls.text(),
                    calls.shrink(seed), calls.text()]
            expected = [[0], model.read(calls.coded(words)), model.grow(seed + 1), model.text(),
                        model.shrink(seed), model.text()]
            self.assertEqual(calls.run(*made), expected, "seed %d" % seed)
