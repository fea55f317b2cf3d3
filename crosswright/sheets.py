"""Sheets: tuples of lines of shut cells, free cells and letters."""

from crosswright.errors import NoSheet

SHUT = "#"
FREE = "."
SIGNS = "#.abcdefghijklmnopqrstuvwxyz"
MOST_LINES = 9
MOST_SIGNS = 9


def read_sheet(text):
    """The sheet that a text tells; NoSheet where it tells none."""
    if not isinstance(text, str):
        raise NoSheet(0)
    return sheet_from(text.split("\n"))


def sheet_from(lines):
    """The sheet with these lines, texts in a list; NoSheet where there is none."""
    for number, line in enumerate(lines[:MOST_LINES]):
        if not is_line(line, len(lines[0])):
            raise NoSheet(number)
    # Asked last, since a fault in one of the first lines goes ahead of there being too many.
    if len(lines) > MOST_LINES:
        raise NoSheet(MOST_LINES)
    return tuple(lines)


def is_line(line, length):
    """Whether a text is a line of a sheet whose lines are so long."""
    if len(line) != length or not 1 <= length <= MOST_SIGNS:
        return False
    return all([sign in SIGNS for sign in line])


def show_sheet(sheet):
    """The text of a sheet."""
    return "\n".join(sheet)


def open_cells(sheet):
    """The cells that are not shut, in turn."""
    return [cell for cell in all_cells(sheet) if is_open(sheet, cell)]


def free_cells(sheet):
    """The cells without a letter that are not shut, in turn."""
    return [cell for cell in all_cells(sheet) if sign_at(sheet, cell) == FREE]


def all_cells(sheet):
    """All cells, line by line, in each from the left."""
    cells = []
    for line in range(len(sheet)):
        for column in range(len(sheet[line])):
            cells.append((line, column))
    return cells


def sign_at(sheet, cell):
    """The sign in a cell of the sheet."""
    return sheet[cell[0]][cell[1]]


def is_open(sheet, cell):
    """Whether a cell of the sheet is not shut."""
    return sign_at(sheet, cell) != SHUT


def turned(sheet):
    """The sheet turned about by half."""
    return tuple([line[::-1] for line in reversed(sheet)])


def one_floor(sheet, other):
    """Whether both sheets are as great and their shut cells lie alike."""
    return floor_of(sheet) == floor_of(other)


def floor_of(sheet):
    """A list of lists of truths, whether each cell is shut; so two of them tell sizes apart too."""
    return [shut_in(line) for line in sheet]


def shut_in(line):
    """For each sign of a line, whether its cell is shut."""
    return [sign == SHUT for sign in line]


def agrees(sheet, other):
    """Whether the first sheet has the other one's floor and each of its letters."""
    if not one_floor(sheet, other):
        return False
    for cell in open_cells(other):
        sign = sign_at(other, cell)
        if sign != FREE and sign_at(sheet, cell) != sign:
            return False
    return True


def with_sign(sheet, cell, sign):
    """The sheet with this sign in the cell, else as it was."""
    number = cell[0]
    column = cell[1]
    lines = list(sheet)
    lines[number] = lines[number][:column] + sign + lines[number][column + 1:]
    return tuple(lines)
