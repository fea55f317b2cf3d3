"""Words in the rows of a sheet: patterns, fillings, and the words that are left."""

from crosswright.errors import NotFilled
from crosswright.rows import rows_of
from crosswright.sheets import free_cells, sign_at, with_sign


def pattern(sheet, cells):
    """The text of the signs in the cells, in turn."""
    return "".join([sign_at(sheet, cell) for cell in cells])


def is_filling(book, sheet):
    """Whether no cell is free and each row has a word of the book that no other row has."""
    if free_cells(sheet):
        return False
    seen = {}
    for row in rows_of(sheet):
        word = pattern(sheet, row[2])
        if word in seen or not book.has(word):
            return False
        seen[word] = True
    return True


def need_filling(book, sheet):
    """Nothing where the sheet is a filling of the book, else NotFilled."""
    if not is_filling(book, sheet):
        raise NotFilled("the sheet is no filling of the book")


def worth_of(book, sheet):
    """The sum of the worths of a filling's words."""
    return sum([book.worth(pattern(sheet, row[2])) for row in rows_of(sheet)])


def put_word(sheet, cells, word):
    """The sheet with the letters of a word in the cells, else as it was."""
    after = sheet
    for cell, letter in zip(cells, word):
        after = with_sign(after, cell, letter)
    return after


def words_left(book, sheet, place):
    """The words that fit the row at a place, but those that stand in another row which is full; sorted."""
    return left_among(book, sheet, rows_of(sheet), place)


def left_among(book, sheet, rows, place):
    """The words left for the row at a place, for an asker who has the sheet's rows at hand."""
    # A row that is not full has a free cell in its pattern, so its pattern is no word and takes none away.
    taken = [pattern(sheet, row[2]) for number, row in enumerate(rows) if number != place]
    return [word for word in book.fitting(pattern(sheet, rows[place][2])) if word not in taken]
