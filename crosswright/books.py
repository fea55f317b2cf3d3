"""Books: words, each with a worth, and the texts that tell them."""

from crosswright.errors import NoLine, NotThere, NoWord, Twice
from crosswright.sheets import FREE
from crosswright.texts import is_letters, is_number

LEAST_LETTERS = 2
MOST_LETTERS = 9
MOST_FIGURES = 60


class Book:
    """Words, each with its worth."""

    def __init__(self):
        self.worths = {}

    def put(self, word, worth=0):
        """The word is in the book then; NoWord or Twice where it can't be put in."""
        need_word(word)
        if word in self.worths:
            raise Twice(word)
        self.worths[word] = worth

    def drop(self, word):
        """The word is in the book no longer; NoWord or NotThere where it can't be taken out."""
        self.need_there(word)
        self.worths.pop(word)

    def words(self):
        """All words, sorted."""
        return sorted(self.worths)

    def worth(self, word):
        """The worth of a word; NoWord or NotThere where there is none."""
        self.need_there(word)
        return self.worths[word]

    def fitting(self, pattern):
        """The words that fit a pattern, sorted."""
        return sorted(words_fitting(self.worths, pattern))

    def greatest(self, pattern):
        """The greatest worth of the words that fit a pattern; None where none does."""
        return max([self.worths[word] for word in words_fitting(self.worths, pattern)], default=None)

    def has(self, word):
        """Whether a text is a word of the book."""
        return word in self.worths

    def need_there(self, word):
        """Nothing where the word is in the book, else NoWord or NotThere."""
        need_word(word)
        if word not in self.worths:
            raise NotThere(word)


def need_word(thing):
    """Nothing where a thing, whatever it is, is a word, else NoWord."""
    if not is_word(thing):
        raise NoWord(thing)


def is_word(thing):
    """Whether a thing, whatever it is, is a word."""
    return is_letters(thing, LEAST_LETTERS, MOST_LETTERS)


def words_fitting(words, pattern):
    """Those of the words that are as long as a pattern and have its letter, or a free place, everywhere."""
    length = len(pattern)
    fits = [word for word in words if len(word) == length]
    for at, sign in enumerate(pattern):
        if sign != FREE:
            fits = [word for word in fits if word[at] == sign]
    return fits


def read_book(text):
    """The book that a text tells; NoLine where it tells none."""
    if not isinstance(text, str):
        raise NoLine(0)
    book = Book()
    # The text without signs has no lines, though splitting it would give one.
    if text == "":
        return book
    for number, line in enumerate(text.split("\n")):
        parts = line.split(" ")
        if not is_entry(parts) or book.has(parts[0]):
            raise NoLine(number)
        book.put(parts[0], int(parts[1]))
    return book


def is_entry(parts):
    """Whether the parts of a line, split at its blanks, are a word and a worth."""
    return len(parts) == 2 and is_word(parts[0]) and is_worth(parts[1])


def is_worth(text):
    """Whether a text writes a worth."""
    return is_number(text, MOST_FIGURES)
