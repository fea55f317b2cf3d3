"""Makings: what workings make with a book, step by step."""

from crosswright.errors import NoStep

MOST_MADE = 30


def made(book, working):
    """What a working makes; NoStep where it can't be made."""
    return steps(book, working)[-1][1]


def steps(book, working):
    """Each part of a working with what it makes, in the order of making; NoStep where it can't be made."""
    told = []
    add_steps(book, working, told)
    return told


def add_steps(book, working, told):
    """Adds the steps of a working to those told, and gives back what it makes; NoStep where it can't be made."""
    texts = [add_steps(book, part, told) for part in working[1:] if isinstance(part, tuple)]
    text = outcome(book, working, texts)
    if text is None:
        raise NoStep(working)
    told.append((working, text))
    return text


def outcome(book, working, texts):
    """What a step makes of what the workings in it have made; None where it makes nothing."""
    name = working[0]
    if name == "word":
        return working[1] if book.has(working[1]) else None
    if name == "back":
        return texts[0][::-1]
    if name == "join":
        return joined(texts[0], texts[1])
    if name == "mix":
        return mixed(texts[0], working[2])
    if name == "within":
        return cut_out(texts[0], working[2], working[3])
    return lessened(texts[0], working[2])


def joined(text, other):
    """Both texts in one; None where this is too long."""
    return text + other if len(text) + len(other) <= MOST_MADE else None


def mixed(text, other):
    """The other text, where it has the letters of the first one in another order; else None."""
    return other if sorted(other) == sorted(text) and other != text else None


def cut_out(text, start, end):
    """The letters from one place to ahead of another one; None where there are none such, or they are all."""
    # As many as all of them are all of them, since they lie within the text.
    return text[start:end] if start < end <= len(text) and end - start < len(text) else None


def lessened(text, at):
    """The text without its letter at a place; None where none is there, or no other one."""
    return text[:at] + text[at + 1:] if at < len(text) and len(text) > 1 else None
