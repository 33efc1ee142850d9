"""Grid texts: one line for each row of cells, the highest first."""

from cellpaint.texts import LINE_END, split_at

PAINTED_BYTE = 35
CLEAR_BYTE = 46


def text_of(rows):
    """Give the text of rows of cells (1 painted, 0 clear), which are handed in lowest first."""
    text = []
    for row in reversed(rows):
        if len(text) > 0:
            text.append(LINE_END)
        text.extend([PAINTED_BYTE if cell == 1 else CLEAR_BYTE for cell in row])
    return text


def rows_of(text, width, height):
    """Give the rows of cells that a text says, lowest first, or None if it's no text of such a grid."""
    lines = split_at(text, LINE_END)
    if len(lines) != height:
        return None
    rows = [row_of(line, width) for line in reversed(lines)]
    return None if None in rows else rows


def row_of(line, width):
    """Give the cells of one line from the left, or None if it's no line of this width."""
    if len(line) != width or not all([byte in (PAINTED_BYTE, CLEAR_BYTE) for byte in line]):
        return None
    return [1 if byte == PAINTED_BYTE else 0 for byte in line]
