"""Picture texts: which texts are a picture's, and the boxes of its marks."""

from cellpaint.texts import LINE_END, split_at

BLANK = 32
MINUS = 45
ZERO = 48
NINE = 57
SIGN = [115]
RULE = [114]

FARTHEST = 1000000000
MOST_DIGITS = 10
MOST_MARKS = 1000
LONGEST_NAME = 12
GREATEST_SIGN_SIZE = 2


class Box:
    """The points with left <= x < right and low <= y < high."""

    def __init__(self, left, low, right, high):
        self.left = left
        self.low = low
        self.right = right
        self.high = high


def boxes_of(text):
    """Give the boxes of the picture's marks in their order, or None if the text is no picture text."""
    lines = split_at(text, LINE_END)
    if len(lines) > MOST_MARKS + 1 or not is_first_line(lines[0]):
        return None
    boxes = [mark_box(line) for line in lines[1:]]
    return None if None in boxes else boxes


def is_first_line(line):
    """Tell whether a line is a width, a height and a depth; the last two may be below 0."""
    numbers = numbers_of(split_at(line, BLANK))
    return numbers is not None and len(numbers) == 3 and numbers[0] >= 0


def mark_box(line):
    """Give the box of the mark that the line tells, or None if it tells none."""
    fields = split_at(line, BLANK)
    if fields[0] == SIGN:
        return sign_box(fields[1:])
    if fields[0] == RULE:
        return rule_box(fields[1:])
    return None


def sign_box(fields):
    """Give the box of the sign with these fields (name, size, node, piece, x, y, width, height, depth), or None."""
    if len(fields) != 9 or not is_sign_name(fields[0]):
        return None
    numbers = numbers_of(fields[1:])
    if numbers is None or numbers[0] > GREATEST_SIGN_SIZE:
        return None
    if min(numbers[:3]) < 0 or min(numbers[5:]) < 0:
        return None
    x = numbers[3]
    y = numbers[4]
    return Box(x, y - numbers[7], x + numbers[5], y + numbers[6])


def rule_box(fields):
    """Give the box of the rule with these fields (node, x, y, width, height), or None."""
    numbers = numbers_of(fields)
    if numbers is None or len(numbers) != 5:
        return None
    if numbers[0] < 0 or min(numbers[3:]) < 0:
        return None
    x = numbers[1]
    y = numbers[2]
    return Box(x, y, x + numbers[3], y + numbers[4])


def is_sign_name(field):
    """Tell whether a field is one byte from 33 to 126, or 2 to 12 small letters."""
    if len(field) == 1:
        return 33 <= field[0] <= 126
    return 2 <= len(field) <= LONGEST_NAME and all([97 <= byte <= 122 for byte in field])


def numbers_of(fields):
    """Give the numbers that the fields write, or None if one of them writes none."""
    numbers = [number_of(field) for field in fields]
    return None if None in numbers else numbers


def number_of(field):
    """Give the number that a field writes in its one way, or None if it doesn't or if that is too far."""
    is_below = field[:1] == [MINUS]
    digits = field[1:] if is_below else field
    if not are_plain_digits(digits):
        return None
    number = 0
    for digit in digits:
        number = number * 10 + digit - ZERO
    if number > FARTHEST or (is_below and number == 0):
        return None
    return -number if is_below else number


def are_plain_digits(digits):
    """Tell whether these are digits with no zeros before, not more than the farthest number has."""
    # More digits are too far whatever they are, so a very long number needn't be worked out.
    if not 1 <= len(digits) <= MOST_DIGITS:
        return False
    if digits[0] == ZERO and len(digits) > 1:
        return False
    return all([ZERO <= digit <= NINE for digit in digits])
