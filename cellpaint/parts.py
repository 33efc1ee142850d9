"""The cells of a grid that hang together: pieces and holes, each as a list of its cells."""

from cellpaint.cells import CLEAR, PAINTED, TO_MEETING, TO_NEIGHBOURS, stepped


def pieces_of(grid):
    """Give the grid's pieces in the order of their numbers."""
    return parts_of(grid.cells_that_are(PAINTED), TO_NEIGHBOURS)


def holes_of(grid):
    """Give the grid's holes."""
    parts = parts_of(grid.cells_that_are(CLEAR), TO_MEETING)
    return [part for part in parts if is_inside(grid, part)]


def is_inside(grid, part):
    """Tell whether none of these cells is at the grid's border."""
    return not any([grid.is_at_border(i, j) for i, j in part])


def parts_of(cells, steps):
    """Part the cells into those that hang together by such steps, in the order of the parts' first cells."""
    left_over = dict([(cell, True) for cell in cells])
    parts = []
    for cell in cells:
        if cell in left_over:
            parts.append(taken_part(cell, left_over, steps))
    return parts


def taken_part(first, left_over, steps):
    """Take a cell and all that hang together with it out of those that are left over, and give them."""
    left_over.pop(first)
    part = [first]
    done = 0
    # A part may wind through the whole grid, so the cells still to be gone on from wait in the part itself.
    while done < len(part):
        cell = part[done]
        for place in stepped(cell[0], cell[1], steps):
            if place in left_over:
                left_over.pop(place)
                part.append(place)
        done += 1
    return part
