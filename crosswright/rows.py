"""Rows of a sheet, found and numbered, and floors that are let by."""

from crosswright.errors import NoFloor
from crosswright.sheets import is_open, open_cells, turned

# How many lines and columns lie between a cell of a row and the one behind it.
ACROSS = (0, 1)
DOWN = (1, 0)


def rows_of(sheet):
    """The rows of a sheet: those across by number, then those down by number."""
    across = []
    down = []
    number = 0
    for cell in open_cells(sheet):
        to_the_right = row_from(sheet, cell, ACROSS)
        to_below = row_from(sheet, cell, DOWN)
        if to_the_right or to_below:
            number = number + 1
        if to_the_right:
            across.append((number, "across", to_the_right))
        if to_below:
            down.append((number, "down", to_below))
    return across + down


def row_from(sheet, cell, way):
    """The cells of the row that begins at an open cell; an empty tuple where none does."""
    before = (cell[0] - way[0], cell[1] - way[1])
    if is_open_within(sheet, before):
        return ()
    cells = []
    here = cell
    while is_open_within(sheet, here):
        cells.append(here)
        here = (here[0] + way[0], here[1] + way[1])
    if len(cells) < 2:
        return ()
    return tuple(cells)


def is_open_within(sheet, cell):
    """Whether a cell lies on the sheet and is open there."""
    if not 0 <= cell[0] < len(sheet):
        return False
    if not 0 <= cell[1] < len(sheet[0]):
        return False
    return is_open(sheet, cell)


def need_floor(sheet):
    """None where the floor is let by, else NoFloor."""
    about = turned(sheet)
    cells = open_cells(sheet)
    for cell in cells:
        if not is_open(about, cell):
            raise NoFloor(cell)
    counts = rows_through(sheet)
    for cell in cells:
        # No cell stands in two rows of one way, so two rows are one across and one down.
        if counts.get(cell, 0) < 2:
            raise NoFloor(cell)


def rows_through(sheet):
    """For each cell that stands in a row, in how many."""
    counts = {}
    for row in rows_of(sheet):
        for cell in row[2]:
            counts[cell] = counts.get(cell, 0) + 1
    return counts
