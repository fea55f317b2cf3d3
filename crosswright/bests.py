"""The filling of greatest worth, and the paper that shows that none has more."""

from crosswright.papers import Cases, Short
from crosswright.rows import need_floor
from crosswright.standings import first_standing


def best(book, sheet):
    """A best filling that agrees with the sheet, or None, its worth, or None, and its paper; or NoFloor."""
    need_floor(sheet)
    found = []
    paper = bounding_paper(first_standing(book, sheet), found)
    if not found:
        return (None, None, paper)
    return (found[-1][0], found[-1][1], paper)


def bounding_paper(standing, found):
    """The paper that bounds a standing; a filling of more worth than those found is added to them, with its worth."""
    ceiling = standing.ceiling()
    # The greatest worth found only grows, so what is bounded by it here is bounded by it in the end.
    if found and ceiling is not None and ceiling <= found[-1][1]:
        return Short()
    place = standing.narrowest()
    if place is None:
        found.append((standing.filled(), ceiling))
        return Short()
    # A row for which no word is left ends in Cases too: so the paper closes the sheet where nothing is found.
    return Cases(place, [(word, bounding_paper(standing.after(place, word), found)) for word in standing.left(place)])
