"""Least givens: as few letters of a filling as need be for it alone to agree with them."""

from crosswright.filled import need_filling
from crosswright.fills import fillings
from crosswright.rows import need_floor
from crosswright.sheets import FREE, open_cells, with_sign


def least(book, filling):
    """Least givens of a filling, and for each of their cells another filling without it; or NoFloor, NotFilled."""
    need_floor(filling)
    need_filling(book, filling)
    givens = filling
    seconds = []
    for cell in open_cells(filling):
        fewer = with_sign(givens, cell, FREE)
        other = other_filling(book, fewer, filling)
        if other is None:
            givens = fewer
        else:
            # It agrees with the givens in the end too, since from here on letters are only taken away.
            seconds.append((cell, other))
    return (givens, seconds)


def other_filling(book, sheet, filling):
    """A filling that agrees with the sheet and is unlike the one at hand; None where there is none."""
    # Of two unlike fillings one at least is another one.
    for told in fillings(book, sheet, 2)[0]:
        if told != filling:
            return told
    return None
