"""Papers: what shows that a sheet has no filling but told ones, or none of more than a worth.

A paper is gone through by reckoning the words left for a row, never by filling anything.
"""

from crosswright.filled import left_among, pattern, put_word
from crosswright.rows import rows_of
from crosswright.sheets import free_cells


class Paper:
    """The base of all papers: it closes none and bounds none, but where its kind tells otherwise."""

    def closes(self, book, sheet, told):
        """Whether it shows that no filling agrees with the sheet but told ones."""
        # Words put into rows leave the floor as it is, so all sheets that a paper speaks of have these rows.
        return self.closes_by(book, sheet, rows_of(sheet), told)

    def bounds(self, book, sheet, most):
        """Whether it shows that no filling of more worth agrees with the sheet."""
        return self.bounds_by(book, sheet, rows_of(sheet), most)

    def closes_by(self, book, sheet, rows, told):
        """Whether it closes a sheet with these rows."""
        return False

    def bounds_by(self, book, sheet, rows, most):
        """Whether it bounds a sheet with these rows."""
        return False


class Cases(Paper):
    """A row's place, and for each word left for this row a paper on the sheet with the word put there."""

    def __init__(self, place, parts):
        self.place = place
        self.parts = list(parts)

    def closes_by(self, book, sheet, rows, told):
        """Whether each part closes the sheet with its word, and the parts' words are those left."""
        cases = self.cases_on(book, sheet, rows)
        if cases is None:
            return False
        for case in cases:
            if not case[0].closes_by(book, case[1], rows, told):
                return False
        return True

    def bounds_by(self, book, sheet, rows, most):
        """Whether each part bounds the sheet with its word, and the parts' words are those left."""
        cases = self.cases_on(book, sheet, rows)
        if cases is None:
            return False
        for case in cases:
            if not case[0].bounds_by(book, case[1], rows, most):
                return False
        return True

    def cases_on(self, book, sheet, rows):
        """Each part's paper with the sheet that it speaks of; None where the parts' words are not those left."""
        if not 0 <= self.place < len(rows):
            return None
        if sorted([part[0] for part in self.parts]) != left_among(book, sheet, rows, self.place):
            return None
        cells = rows[self.place][2]
        return [(part[1], put_word(sheet, cells, part[0])) for part in self.parts]


class Whole(Paper):
    """The end at a sheet that is told."""

    def closes_by(self, book, sheet, rows, told):
        """Whether the sheet has no free cell and is one of those told."""
        return not free_cells(sheet) and sheet in told


class Short(Paper):
    """The end at a sheet whose rows can't bring more than a worth."""

    def bounds_by(self, book, sheet, rows, most):
        """Whether a row is fitted by no word, or the greatest worths of the rows come to at most this worth."""
        total = 0
        for row in rows:
            greatest = book.greatest(pattern(sheet, row[2]))
            if greatest is None:
                return True
            total = total + greatest
        return total <= most
