"""What picture texts and grid texts have in common."""

LINE_END = 10


def split_at(text, separator):
    """Give the parts of a text between such bytes; a part may be empty, and there is always one."""
    parts = []
    part = []
    for byte in text:
        if byte == separator:
            parts.append(part)
            part = []
        else:
            part.append(byte)
    parts.append(part)
    return parts
