"""Searches: all plain workings that make an answer."""

from crosswright.makings import cut_out, lessened, mixed


def all_workings(book, answer, most=3):
    """All plain workings of at most so many steps that make an answer, each once."""
    told = []
    for number in range(1, most + 1):
        told.extend(workings_of(book, answer, number))
    return told


def workings_of(book, answer, number):
    """The plain workings of just so many steps that make an answer."""
    if number == 1:
        return [("word", answer)] if book.has(answer) else []
    told = [("back", part) for part in workings_of(book, answer[::-1], number - 1)]
    if number == 2:
        told.extend(steps_of_words(book, answer))
    told.extend(joins_of(book, answer, number - 1))
    return told


def steps_of_words(book, answer):
    """The mixes, withins and lesses of a word that make an answer."""
    told = []
    for word in book.words():
        part = ("word", word)
        if mixed(word, answer) is not None:
            told.append(("mix", part, answer))
        for start in range(len(word)):
            end = start + len(answer)
            if cut_out(word, start, end) == answer:
                told.append(("within", part, start, end))
        told.extend([("less", part, at) for at in range(len(word)) if lessened(word, at) == answer])
    return told


def joins_of(book, answer, number):
    """The joins that make an answer and whose two parts have just so many steps together."""
    told = []
    for at in range(1, len(answer)):
        for share in range(1, number):
            behind = workings_of(book, answer[at:], number - share)
            for part in workings_of(book, answer[:at], share):
                told.extend([("join", part, other) for other in behind])
    return told
