"""Texts of letters and of figures.

They are asked sign by sign, since what Python takes for a letter, a figure or a number is more than what counts here.
"""

LETTERS = "abcdefghijklmnopqrstuvwxyz"
FIGURES = "0123456789"


def is_letters(thing, least, most):
    """Whether a thing, whatever it is, is a text of letters alone, from so many to so many."""
    if not isinstance(thing, str):
        return False
    return least <= len(thing) <= most and all([sign in LETTERS for sign in thing])


def is_number(text, most):
    """Whether a text writes a whole number: one figure to so many, without a 0 ahead but for 0 itself."""
    if not 1 <= len(text) <= most:
        return False
    if not all([sign in FIGURES for sign in text]):
        return False
    return text == "0" or text[0] != "0"
