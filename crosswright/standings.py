"""Standings: how far a sheet is filled, and which words fit each of its rows.

They are for sheets whose floor is let by, where each cell of a row stands in one other row too.
"""

from crosswright.filled import pattern, put_word
from crosswright.rows import rows_of
from crosswright.sheets import FREE


class Ground:
    """What stays while a sheet is filled: the sheet, its rows' cells, where others cross them, and worths of words."""

    def __init__(self, book, sheet):
        self.sheet = sheet
        self.cells = [row[2] for row in rows_of(sheet)]
        self.crossings = crossings_of(self.cells)
        self.worths = dict([(word, book.worth(word)) for word in book.words()])
        # The same patterns come up again and again, so the words that fit one are looked for once.
        self.known = {}

    def narrowed(self, words, signs, at):
        """The words that fit a pattern, out of those that fitted it without its letter at a place of it."""
        if signs not in self.known:
            self.known[signs] = [word for word in words if word[at] == signs[at]]
        return self.known[signs]


class Standing:
    """By the places of the rows: their patterns, and the words that fit these, the ones of greatest worth first."""

    def __init__(self, ground, patterns, fits):
        self.ground = ground
        self.patterns = patterns
        self.fits = fits

    def after(self, place, word):
        """The standing behind this one, with a word that is left put into the row at a place."""
        patterns = list(self.patterns)
        fits = list(self.fits)
        for letter, crossing in zip(word, self.ground.crossings[place]):
            other = crossing[0]
            at = crossing[1]
            before = patterns[other]
            if before[at] == FREE:
                patterns[other] = before[:at] + letter + before[at + 1:]
                fits[other] = self.ground.narrowed(fits[other], patterns[other], at)
        patterns[place] = word
        fits[place] = [word]
        return Standing(self.ground, patterns, fits)

    def narrowest(self):
        """The place of the row to go on with: one for which none is left, or few fit; None where all is filled."""
        sizes = []
        seen = {}
        for place, signs in enumerate(self.patterns):
            if FREE in signs:
                sizes.append((len(self.fits[place]), place))
            elif signs in seen or not self.fits[place]:
                return place
            else:
                seen[signs] = True
        if not sizes:
            return None
        return min(sizes)[1]

    def left(self, place):
        """The words left for the row at a place."""
        # The pattern of a row that is not full has a free cell, so it is no word and takes none away.
        others = self.patterns[:place] + self.patterns[place + 1:]
        return [word for word in self.fits[place] if word not in others]

    def ceiling(self):
        """The greatest worths of words that fit, one for each row, in all; None where some row is fitted by none."""
        if [] in self.fits:
            return None
        return sum([self.ground.worths[words[0]] for words in self.fits])

    def filled(self):
        """The sheet with each row's pattern in its cells."""
        sheet = self.ground.sheet
        for cells, signs in zip(self.ground.cells, self.patterns):
            sheet = put_word(sheet, cells, signs)
        return sheet


def first_standing(book, sheet):
    """The standing of a sheet as it is."""
    ground = Ground(book, sheet)
    patterns = [pattern(sheet, cells) for cells in ground.cells]
    fits = [sorted(book.fitting(signs), key=book.worth, reverse=True) for signs in patterns]
    return Standing(ground, patterns, fits)


def crossings_of(rows):
    """For each row, cell by cell: the place of the other row there, and where in that row the cell stands."""
    through = {}
    for place, cells in enumerate(rows):
        for at, cell in enumerate(cells):
            through.setdefault(cell, []).append((place, at))
    return [crossings_on(through, place, cells) for place, cells in enumerate(rows)]


def crossings_on(through, place, cells):
    """The crossings of the row at a place; through each of its cells go two rows, it and another one."""
    crossings = []
    for cell in cells:
        crossings.extend([crossing for crossing in through[cell] if crossing[0] != place])
    return crossings
