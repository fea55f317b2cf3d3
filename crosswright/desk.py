"""The desk: one book and sheets by names, told row by row."""

from crosswright.bests import best
from crosswright.books import Book, is_worth, need_word
from crosswright.errors import NoDeed, NoLine, NoName
from crosswright.filled import need_filling, pattern
from crosswright.fills import fillings
from crosswright.givens import least
from crosswright.makings import made
from crosswright.marks import shown
from crosswright.rows import rows_of
from crosswright.searches import all_workings
from crosswright.sheets import sheet_from, show_sheet
from crosswright.texts import is_letters
from crosswright.workings import read_working

LEAST_LETTERS = 1
MOST_NAME = 8
MOST_ANSWER = 9
STEPS = "012345"
BETWEEN_LINES = "/"


def put_in(desk, parts):
    """The row `word WORD WORTH`."""
    need_word(parts[1])
    if not is_worth(parts[2]):
        raise NoLine(0)
    desk.book.put(parts[1], int(parts[2]))
    return "ok"


def take_out(desk, parts):
    """The row `drop WORD`."""
    desk.book.drop(parts[1])
    return "ok"


def keep_sheet(desk, parts):
    """The row `sheet NAME LINES`."""
    need_name(parts[1])
    desk.sheets[parts[1]] = sheet_from(parts[2].split(BETWEEN_LINES))
    return "ok"


def tell_sheet(desk, parts):
    """The row `show NAME`."""
    return in_a_row(show_sheet(sheet_by(desk, parts[1])))


def tell_rows(desk, parts):
    """The row `rows NAME`."""
    sheet = sheet_by(desk, parts[1])
    return " ".join([row_text(row, pattern(sheet, row[2])) for row in rows_of(sheet)])


def row_text(row, signs):
    """A row of a sheet as it is told, by its number, its way and its pattern."""
    number = row[0]
    way = row[1]
    return f"{number}{way}:{signs}"


def tell_filling(desk, parts):
    """The row `fill NAME`."""
    told = fillings(desk.book, sheet_by(desk, parts[1]), 1)[0]
    return in_a_row(show_sheet(told[0])) if told else "none"


def tell_count(desk, parts):
    """The row `count NAME`."""
    told = fillings(desk.book, sheet_by(desk, parts[1]), 2)[0]
    return ("none", "one", "more")[len(told)]


def tell_least(desk, parts):
    """The row `least NAME`."""
    return in_a_row(show_sheet(least(desk.book, sheet_by(desk, parts[1]))[0]))


def tell_best(desk, parts):
    """The row `best NAME`."""
    worth = best(desk.book, sheet_by(desk, parts[1]))[1]
    return "none" if worth is None else str(worth)


def tell_marks(desk, parts):
    """The row `mark NAME OTHER`."""
    filling = sheet_by(desk, parts[1])
    sheet = sheet_by(desk, parts[2])
    need_filling(desk.book, filling)
    return in_a_row(shown(filling, sheet))


def tell_made(desk, parts):
    """The row `make WORKING`."""
    return made(desk.book, read_working(parts[1]))


def tell_workings(desk, parts):
    """The row `work ANSWER STEPS`."""
    return str(len(all_workings(desk.book, parts[1], int(parts[2]))))


DEEDS = {
    "word": put_in,
    "drop": take_out,
    "sheet": keep_sheet,
    "show": tell_sheet,
    "rows": tell_rows,
    "fill": tell_filling,
    "count": tell_count,
    "least": tell_least,
    "best": tell_best,
    "mark": tell_marks,
    "make": tell_made,
    "work": tell_workings,
}

# How many words a row of each deed has, the deed's own counted.
LENGTHS = {
    "word": 3,
    "drop": 2,
    "sheet": 3,
    "show": 2,
    "rows": 2,
    "fill": 2,
    "count": 2,
    "least": 2,
    "best": 2,
    "mark": 3,
    "make": 2,
    "work": 3,
}


class Desk:
    """A book, and sheets by their names."""

    def __init__(self):
        self.book = Book()
        self.sheets = {}

    def say(self, row):
        """The answer to a row; NoDeed where it is none of the desk's, or another refusal."""
        if not isinstance(row, str):
            raise NoDeed("this is no row")
        parts = row.split(" ")
        if not is_deed(parts):
            raise NoDeed("this is no row of the desk's")
        return DEEDS[parts[0]](self, parts)


def is_deed(parts):
    """Whether the words of a row are such as a deed has."""
    if parts[0] not in LENGTHS or len(parts) != LENGTHS[parts[0]] or "" in parts:
        return False
    if parts[0] != "work":
        return True
    return is_letters(parts[1], LEAST_LETTERS, MOST_ANSWER) and len(parts[2]) == 1 and parts[2] in STEPS


def need_name(text):
    """Nothing where a text is a name, else NoName."""
    if not is_letters(text, LEAST_LETTERS, MOST_NAME):
        raise NoName(text)


def sheet_by(desk, name):
    """The sheet that stands by a name; NoName where none does."""
    # By what is no name no sheet stands either.
    if name not in desk.sheets:
        raise NoName(name)
    return desk.sheets[name]


def in_a_row(text):
    """The text of a sheet as it stands in an answer."""
    return text.replace("\n", BETWEEN_LINES)
