"""Marks: a solver's sheet held against a filled one."""

from crosswright.errors import NoMatch
from crosswright.filled import pattern
from crosswright.rows import rows_of
from crosswright.sheets import FREE, free_cells, one_floor, open_cells, show_sheet, sign_at, with_sign


def marks(filling, sheet):
    """The cells with a wrong letter, the free ones, and the places of the rows that are right; or NoMatch."""
    need_match(filling, sheet)
    wrong = [cell for cell in open_cells(sheet) if sign_at(sheet, cell) not in (FREE, sign_at(filling, cell))]
    right = [place for place, row in enumerate(rows_of(sheet)) if pattern(sheet, row[2]) == pattern(filling, row[2])]
    return (wrong, free_cells(sheet), right)


def shown(filling, sheet):
    """The text of the solver's sheet, its wrong letters as great ones; or NoMatch."""
    after = sheet
    for cell in marks(filling, sheet)[0]:
        after = with_sign(after, cell, sign_at(sheet, cell).upper())
    return show_sheet(after)


def need_match(filling, sheet):
    """Nothing where both sheets have one floor, else NoMatch."""
    if not one_floor(filling, sheet):
        raise NoMatch("the sheets have not one floor")
