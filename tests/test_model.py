"""Many lists of calls, their answers compared with those that the document's own words give cell by cell."""

import unittest

from cellpaint.grid import answers
from tests import calls
from tests.model import Model

NAMES = ("begin", "paint", "erase", "set_cell", "invert", "grow", "shrink", "text", "read", "at",
         "area", "runs", "pieces", "piece", "keep", "holes", "fill", "edge", "count", "marks")
HARD_NUMBERS = ("-0", "+1", "01", "", "1000000001", "-1000000001", "1000000000", "-1000000000", "-1", "3", "x")


class Numbers:
    """The same numbers each time, with no pattern that matters here."""

    def __init__(self, seed):
        self.state = seed

    def below(self, bound):
        self.state = (self.state * 6364136223846793005 + 1442695040888963407) % 2 ** 64
        return (self.state >> 33) % bound

    def between(self, least, greatest):
        return least + self.below(greatest - least + 1)

    def one_of(self, choices):
        return choices[self.below(len(choices))]


def mark_fields(numbers):
    place = [numbers.between(-30, 60), numbers.between(-30, 60)]
    sides = [numbers.between(0, 25), numbers.between(0, 25)]
    if numbers.below(2):
        return ["r", numbers.below(9)] + place + sides
    name = numbers.one_of(("a", "Z", "~", "!", "sum", "abcdefghijkl"))
    return ["s", name, numbers.below(3), numbers.below(9), numbers.below(9)] + place + sides + [numbers.below(20)]


def picture(numbers):
    rows = [[numbers.below(50), numbers.between(-50, 50), numbers.between(-50, 50)]]
    rows.extend([mark_fields(numbers) for mark in range(numbers.below(4))])
    if numbers.below(5) == 0:
        spoiled = numbers.one_of(rows)
        spoiled[numbers.below(len(spoiled))] = numbers.one_of(HARD_NUMBERS)
    words = "\n".join([" ".join([str(field) for field in row]) for row in rows])
    return calls.coded(words + ("\n" if numbers.below(20) == 0 else ""))


def grid_words(numbers, model):
    width = model.width + (numbers.below(12) == 0)
    height = model.height + (numbers.below(12) == 0)
    # Holes and pieces of several cells come about if there is more of one sign than of the other.
    signs = numbers.one_of(("#.", "##.", "###.", "#..", "#####."))
    rows = ["".join([numbers.one_of(signs) for i in range(width)]) for j in range(height)]
    return calls.coded("\n".join(rows) + numbers.one_of(("",) * 15 + ("\n", "#", " ")))


def cell(numbers, model):
    return [numbers.between(-1, model.width), numbers.between(-1, model.height)]


def piece_number(numbers, model):
    """Give mostly the number of a piece that is there."""
    many = len(model.pieces()) - 1
    return numbers.between(-1, many) if many == 0 or numbers.below(5) == 0 else numbers.below(many)


def given_to(name, numbers, model):
    """Give what the call of this name is handed, number by number or as one text."""
    if name == "begin":
        sides = [numbers.between(0, 9), numbers.between(1, 9)]
        return [numbers.between(-20, 20), numbers.between(-20, 20)] + sides + [numbers.between(1, 12)]
    if name in ("paint", "erase"):
        return [picture(numbers)]
    if name == "set_cell":
        return cell(numbers, model) + [numbers.between(-1, 2) if numbers.below(4) == 0 else numbers.below(2)]
    if name in ("grow", "shrink"):
        return [numbers.one_of((0, 1, 1, 1, 2, 2, 3, 5, 100, -1, 101))]
    if name == "read":
        return [grid_words(numbers, model)]
    if name == "runs":
        return [numbers.between(-1, model.height)]
    if name == "keep":
        return [piece_number(numbers, model)]
    if name == "marks":
        return [piece_number(numbers, model), picture(numbers)]
    return cell(numbers, model) if name in ("at", "piece") else []


def shuffled_names(numbers):
    """Give all calls' names, and those of most of them several times, in some order."""
    # Much that is read keeps the grid from being all clear or all painted for long.
    left_over = list(NAMES) + list(NAMES[1:]) * 3 + ["read"] * 20
    names = []
    while left_over:
        names.append(left_over.pop(numbers.below(len(left_over))))
    return names


class Compared(unittest.TestCase):
    def check_list(self, seed):
        """One list of near 200 calls with all of the calls in it, the grid's text asked for behind each."""
        numbers = Numbers(seed)
        model = Model()
        made = [calls.begin(-7, -9, 8, 7, 6), calls.text()]
        expected = [model.begin(-7, -9, 8, 7, 6), model.text()]
        for name in shuffled_names(numbers):
            given = given_to(name, numbers, model)
            made.extend([getattr(calls, name)(*given), calls.text()])
            expected.extend([getattr(model, name)(*given), model.text()])
        self.assertEqual(calls.run(*made), expected, "seed %d" % seed)
        handed = calls.joined(made)
        self.assertEqual(answers(handed), answers(calls.joined(made)))
        self.assertEqual(handed, calls.joined(made))

    def test_many_lists(self):
        for seed in range(100):
            self.check_list(seed)

    def test_small_grids_cell_by_cell(self):
        """All grids of some small sizes, with what is asked of the whole grid."""
        for width, height in ((1, 1), (1, 4), (4, 1), (2, 2), (2, 3), (3, 2), (3, 3), (4, 3), (3, 4)):
            for number in range(2 ** (width * height)):
                self.check_grid(width, height, number)

    def check_grid(self, width, height, number):
        model = Model()
        signs = [".#"[number >> place & 1] for place in range(width * height)]
        words = calls.coded("\n".join(["".join(signs[j * width:(j + 1) * width]) for j in range(height)]))
        model.begin(0, 0, width, height, 1)
        model.read(words)
        names = ("area", "pieces", "holes", "edge", "count", "fill", "text")
        made = [calls.begin(0, 0, width, height, 1), calls.read(words)] + [getattr(calls, name)() for name in names]
        expected = [getattr(model, name)() for name in names]
        found = calls.run(*made)[2:]
        self.assertEqual(found, expected, words)
        self.assertEqual(len(found[1]) - 1 - found[2][1], found[4][4], words)

    def test_marks_of_every_piece(self):
        for seed in range(60):
            numbers = Numbers(seed)
            model = Model()
            begun = [numbers.between(-30, 30), numbers.between(-30, 30), numbers.between(1, 9), numbers.between(1, 9),
                     numbers.between(1, 12)]
            model.begin(*begun)
            words = "\n".join(["".join([numbers.one_of("##.") for i in range(begun[2])]) for j in range(begun[3])])
            model.read(calls.coded(words))
            rows = [" ".join([str(field) for field in mark_fields(numbers)]) for mark in range(20)]
            told = calls.coded("\n".join(["0 0 0"] + rows))
            asked = range(-1, len(model.all_pieces()) + 1)
            found = calls.run(calls.begin(*begun), calls.read(words), *[calls.marks(k, told) for k in asked])[2:]
            self.assertEqual(found, [model.marks(k, told) for k in asked], "seed %d" % seed)

    def test_two_ways_to_count_on_great_grids(self):
        for seed in range(40):
            numbers = Numbers(seed)
            signs = "#" * (seed % 8 + 1) + "." * (8 - seed % 7)
            width, height = numbers.between(30, 40), numbers.between(30, 40)
            words = "\n".join(["".join([numbers.one_of(signs) for i in range(width)]) for j in range(height)])
            found = calls.run(calls.begin(0, 0, width, height, 1), calls.read(words), calls.pieces(), calls.holes(),
                              calls.count(), calls.fill(), calls.holes(), calls.pieces(), calls.count())[2:]
            self.assertEqual(len(found[0]) - 1 - found[1][1], found[2][4], "seed %d" % seed)
            self.assertEqual(sum(found[0]) + found[3][1], sum(found[5]), "seed %d" % seed)
            self.assertEqual((found[4], len(found[5]) - 1), ([0, 0], found[6][4]), "seed %d" % seed)

    def test_distances_on_a_great_grid(self):
        for seed in range(6):
            numbers = Numbers(seed)
            model = Model()
            model.begin(0, 0, 40, 31, 1)
            words = "\n".join(["".join([numbers.one_of("#" + "." * 60) for i in range(40)]) for j in range(31)])
            made = [calls.begin(0, 0, 40, 31, 1), calls.read(words), calls.grow(seed + 1), calls.text(),
                    calls.shrink(seed), calls.text()]
            expected = [[0], model.read(calls.coded(words)), model.grow(seed + 1), model.text(),
                        model.shrink(seed), model.text()]
            self.assertEqual(calls.run(*made), expected, "seed %d" % seed)
