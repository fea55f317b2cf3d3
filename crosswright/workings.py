"""Workings: tuples that tell how an answer is made step by step, and their texts."""

from crosswright.errors import NoWorking
from crosswright.texts import FIGURES, LETTERS, is_letters, is_number

LEAST_LETTERS = 1
MOST_LETTERS = 9
MOST_FIGURES = 3

# What stands in the brackets of each step, part by part.
PARTS = {
    "back": ("working",),
    "join": ("working", "working"),
    "mix": ("working", "letters"),
    "within": ("working", "number", "number"),
    "less": ("working", "number"),
}


class Reader:
    """A text, and how far it has been read."""

    def __init__(self, text):
        self.text = text
        self.at = 0

    def sign(self):
        """The sign that comes now; the text without signs at the end."""
        return self.text[self.at:self.at + 1]

    def run(self, signs):
        """What can be read of such signs from here on; it is read then."""
        start = self.at
        while self.sign() != "" and self.sign() in signs:
            self.at = self.at + 1
        return self.text[start:self.at]

    def pass_by(self, sign):
        """Reads this very sign, else NoWorking."""
        need(self.sign() == sign)
        self.at = self.at + 1


def read_working(text):
    """The working that a text tells; NoWorking where it tells none."""
    need(isinstance(text, str))
    reader = Reader(text)
    working = read_one(reader)
    need(reader.sign() == "")
    return working


def read_one(reader):
    """The working that begins where the reader is."""
    name = reader.run(LETTERS)
    # A word may have the name of a step: only the bracket behind it tells.
    if reader.sign() != "(":
        return ("word", checked_letters(name))
    need(name in PARTS)
    parts = [name]
    ahead = "("
    for kind in PARTS[name]:
        reader.pass_by(ahead)
        parts.append(read_part(reader, kind))
        ahead = ","
    reader.pass_by(")")
    return tuple(parts)


def read_part(reader, kind):
    """The part of a step, of this kind, that begins where the reader is."""
    if kind == "working":
        return read_one(reader)
    if kind == "letters":
        return checked_letters(reader.run(LETTERS))
    figures = reader.run(FIGURES)
    need(is_number(figures, MOST_FIGURES))
    return int(figures)


def checked_letters(text):
    """The text itself where it has one to nine letters, else NoWorking."""
    need(is_letters(text, LEAST_LETTERS, MOST_LETTERS))
    return text


def need(truth):
    """Nothing where something holds that must hold for a text to tell a working, else NoWorking."""
    if not truth:
        raise NoWorking("no working is told")


def show_working(working):
    """The text of a working."""
    name = working[0]
    if name == "word":
        return working[1]
    parts = []
    for kind, part in zip(PARTS[name], working[1:]):
        parts.append(show_working(part) if kind == "working" else str(part))
    inside = ",".join(parts)
    return f"{name}({inside})"
