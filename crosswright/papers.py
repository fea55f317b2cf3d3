"""Papers: what shows that a sheet has no filling but told ones, or none of more than a worth.

A paper is gone through by reckoning the words left for a row, never by filling anything.
"""

from crosswright.filled import left_among, pattern, put_word
from crosswright.rows import rows_of
from crosswright.sheets import free_cells


class Paper:
    """The base of all papers: it closes none and bounds none, but where its kind tells otherwise."""

    def closes(self, book, sheet, told):
        """Whether it shows that no filling agrees with the sheet but told ones."""
        return False

    def bounds(self, book, sheet, most):
        """Whether it shows that no filling of more worth agrees with the sheet."""
        return False


class Cases(Paper):
    """A row's place, and for each word left for this row a paper on the sheet with the word put there."""

    def __init__(self, place, parts):
        self.place = place
        self.parts = list(parts)

    def closes(self, book, sheet, told):
        """Whether each part closes the sheet with its word, and the parts' words are those left."""
        cases = self.cases_on(book, sheet)
        if cases is None:
            return False
        for case in cases:
            if not case[0].closes(book, case[1], told):
                return False
        return True

    def bounds(self, book, sheet, most):
        """Whether each part bounds the sheet with its word, and the parts' words are those left."""
        cases = self.cases_on(book, sheet)
        if cases is None:
            return False
        for case in cases:
            if not case[0].bounds(book, case[1], most):
                return False
        return True

    def cases_on(self, book, sheet):
        """Each part's paper with the sheet that it speaks of; None where the parts' words are not those left."""
        rows = rows_of(sheet)
        if not 0 <= self.place < len(rows):
            return None
        if sorted([part[0] for part in self.parts]) != left_among(book, sheet, rows, self.place):
            return None
        cells = rows[self.place][2]
        return [(part[1], put_word(sheet, cells, part[0])) for part in self.parts]


class Whole(Paper):
    """The end at a sheet that is told."""

    def closes(self, book, sheet, told):
        """Whether the sheet has no free cell and is one of those told."""
        return not free_cells(sheet) and sheet in told


class Short(Paper):
    """The end at a sheet whose rows can't bring more than a worth."""

    def bounds(self, book, sheet, most):
        """Whether a row is fitted by no word, or the greatest worths of the rows come to at most this worth."""
        total = 0
        for row in rows_of(sheet):
            worths = [book.worth(word) for word in book.fitting(pattern(sheet, row[2]))]
            if not worths:
                return True
            total = total + max(worths)
        return total <= most
