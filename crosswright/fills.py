"""Fillings of a sheet, found row by row by the words left, and the paper that shows that there are no others."""

from crosswright.papers import Cases, Whole
from crosswright.rows import need_floor
from crosswright.standings import first_standing


def fillings(book, sheet, most=2):
    """Fillings that agree with the sheet, at most so many, and a paper that closes it, or None; or NoFloor."""
    need_floor(sheet)
    found = []
    paper = closing_paper(first_standing(book, sheet), most, found)
    return (found, paper)


def closing_paper(standing, most, found):
    """The paper that closes a standing, whose fillings are added to those found; None once there are enough."""
    if len(found) >= most:
        return None
    place = standing.narrowest()
    if place is None:
        found.append(standing.filled())
        return Whole() if len(found) < most else None
    parts = []
    for word in standing.left(place):
        paper = closing_paper(standing.after(place, word), most, found)
        if paper is None:
            return None
        parts.append((word, paper))
    return Cases(place, parts)
