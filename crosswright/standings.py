"""Standings: how far a sheet is filled, and which words are left for each of its rows.

They are for sheets whose floor is let by, where each cell of a row stands in one other row too.
"""

from crosswright.filled import left_among, pattern, put_word
from crosswright.rows import rows_of
from crosswright.sheets import FREE


class Standing:
    """A sheet, and by the places of its rows: their cells, where others cross them, and the words left for them."""

    def __init__(self, sheet, cells, crossings, lefts):
        self.sheet = sheet
        self.cells = cells
        self.crossings = crossings
        self.lefts = lefts

    def after(self, place, word):
        """The standing behind this one, with a word that is left put into the row at a place."""
        sheet = put_word(self.sheet, self.cells[place], word)
        lefts = list(self.lefts)
        lefts[place] = [word]
        # More letters and more full rows never bring a word back, so what is left is drawn from what was left.
        for letter, crossing in zip(word, self.crossings[place]):
            lefts[crossing[0]] = words_with(lefts[crossing[0]], crossing[1], letter)
        for other in [place] + [crossing[0] for crossing in self.crossings[place]]:
            lefts = lefts_but(lefts, other, pattern(sheet, self.cells[other]))
        return Standing(sheet, self.cells, self.crossings, lefts)

    def narrowest(self):
        """The place of the row to go on with, one with the fewest words left; None where the sheet is a filling."""
        sizes = [(len(self.lefts[place]), place) for place in range(len(self.cells)) if self.is_undone(place)]
        if not sizes:
            return None
        return min(sizes)[1]

    def is_undone(self, place):
        """Whether the row at a place is not full, or has what can't stand there."""
        return not self.lefts[place] or FREE in pattern(self.sheet, self.cells[place])


def words_with(words, at, letter):
    """Those of the words that have this letter at a place of theirs."""
    return [word for word in words if word[at] == letter]


def lefts_but(lefts, place, signs):
    """The words left for each row, without the pattern of the row at a place for all rows but this one."""
    # The pattern of a row that is not full is no word.
    if FREE in signs:
        return lefts
    return [words if other == place else words_but(words, signs) for other, words in enumerate(lefts)]


def words_but(words, taken):
    """The words without one that is taken."""
    return [word for word in words if word != taken]


def first_standing(book, sheet):
    """The standing of a sheet as it is."""
    rows = rows_of(sheet)
    cells = [row[2] for row in rows]
    lefts = [left_among(book, sheet, rows, place) for place in range(len(rows))]
    return Standing(sheet, cells, crossings_of(cells), lefts)


def crossings_of(rows):
    """For each row, cell by cell: the place of the other row there, and where in that row the cell stands."""
    through = {}
    for place, cells in enumerate(rows):
        for at, cell in enumerate(cells):
            through.setdefault(cell, []).append((place, at))
    return [crossings_on(through, place, cells) for place, cells in enumerate(rows)]


def crossings_on(through, place, cells):
    """The crossings of the row at a place; through each of its cells go two rows, it and another one."""
    crossings = []
    for cell in cells:
        crossings.extend([crossing for crossing in through[cell] if crossing[0] != place])
    return crossings
