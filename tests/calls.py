"""Builds lists of calls, takes what they answer apart, and checks it."""

import unittest

from cellpaint.grid import answers


def coded(words):
    """Give the bytes of a text that is told as a str (each sign is one byte) or as a list of bytes."""
    return list(words.encode("latin-1")) if isinstance(words, str) else list(words)


def row(words):
    numbers = coded(words)
    return [len(numbers)] + numbers


def lines(words):
    """Give a grid's text from one that has / where a line ends."""
    return words.replace("/", "\n")


def begin(left, low, width, height, size):
    return [0, left, low, width, height, size]


def paint(picture):
    return [1] + row(picture)


def erase(picture):
    return [2] + row(picture)


def set_cell(i, j, way):
    return [3, i, j, way]


def invert():
    return [4]


def grow(n):
    return [5, n]


def shrink(n):
    return [6, n]


def text():
    return [7]


def read(words):
    return [8] + row(words)


def at(i, j):
    return [9, i, j]


def area():
    return [10]


def runs(j):
    return [11, j]


def pieces():
    return [12]


def piece(i, j):
    return [13, i, j]


def keep(k):
    return [14, k]


def holes():
    return [15]


def fill():
    return [16]


def edge():
    return [17]


def count():
    return [18]


def marks(k, picture):
    return [19, k] + row(picture)


def picture(*told):
    return "\n".join(("0 0 0",) + told)


def rule(x, y, width, height):
    return "r 0 %d %d %d %d" % (x, y, width, height)


def sign(x, y, width, height, depth):
    return "s a 0 0 0 %d %d %d %d %d" % (x, y, width, height, depth)


def drawn(words):
    """Give the two calls that begin a grid as great as these words show it, and read them."""
    rows = words.split("/")
    return [(begin(0, 0, len(rows[0]), len(rows), 1), [0]), (read(lines(words)), [0])]


def joined(calls):
    """Give the one list of numbers for these calls, which keeps to the bounds that the document sets."""
    numbers = [number for call in calls for number in call]
    if not 1 <= len(calls) <= 200 or len(numbers) > 17000:
        raise AssertionError("a test hands in a list that the document rules out")
    return numbers


def taken_apart(given):
    """Give the answer of each call from what all of them gave."""
    found = []
    place = 0
    while place < len(given):
        end = place + 1 + given[place]
        if end > len(given) or end == place + 1:
            raise AssertionError("the answers don't come out even")
        found.append(given[place + 1:end])
        place = end
    return found


def run(*calls):
    """Make these calls on one new grid and give their answers, one list for each."""
    given = answers(joined(calls))
    if not isinstance(given, list) or [number for number in given if type(number) is not int]:
        raise AssertionError("not a list of whole numbers: %r" % (given,))
    return taken_apart(given)


class CallCase(unittest.TestCase):
    def check(self, *steps):
        """Make the calls of the steps, each (call, answer), on one grid; an answer that is a str is a grid's text."""
        found = run(*[call for call, expected in steps])
        self.assertEqual(len(found), len(steps))
        for number, (call, expected) in enumerate(steps):
            if isinstance(expected, str):
                expected = [0] + coded(lines(expected))
            self.assertEqual(found[number], expected, "call %d: %r" % (number, call[:30]))
