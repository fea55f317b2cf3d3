"""A second reckoning, by other roads than the program's, that tests hold its answers against."""

import functools
import itertools
import re

from crosswright.books import Book
from crosswright.papers import Cases, Whole
from crosswright.rows import rows_of

FLOORS = (
    ("..", ".."), ("...", "..."), ("..", "..", ".."), ("#..", "...", "..#"), ("..#", "...", "#.."),
    ("..##", "....", "##.."), ("..##", "..##", "##..", "##.."), ("####", "#..#", "#..#", "####"),
    ("#",), ("##", "##"), ("...", "...", "..."), ("..#..", "..#.."),
)
# The names of the steps of workings, and of words in them.
NAMES = ("back", "join", "mix", "within", "less", "word")


def book_of(words):
    """A book of words, or of words with their worths in a dict."""
    book = Book()
    for word in words:
        book.put(word, words[word] if isinstance(words, dict) else 0)
    return book


def rows_in(sheet):
    """The patterns of the rows, read off the lines and the columns."""
    texts = list(sheet) + ["".join(signs) for signs in zip(*sheet)]
    return [run for text in texts for run in text.split("#") if len(run) > 1]


def worth_in(worths, filling):
    return sum(worths[word] for word in rows_in(filling))


def is_told(words, given, sheet):
    """Whether a sheet is a filling that agrees with what is given, by another road than the program's."""
    if [len(line) for line in sheet] != [len(line) for line in given]:
        return False
    for have, want in zip("".join(sheet), "".join(given)):
        if have == "." or (want != "." and have != want) or (have == "#" and want != "#"):
            return False
    rows = rows_in(sheet)
    return len(set(rows)) == len(rows) and set(rows) <= set(words)


def lines_for(words, given):
    """All ways to put words into the rows of one line that agree with it, two rows with one word among them."""
    runs = given.split("#")
    ways = [[word for word in words if len(word) == len(run)] if run else [""] for run in runs]
    lines = ["#".join(way) for way in itertools.product(*ways)]
    return [line for line in lines if all(want in (".", have) for have, want in zip(line, given))]


def all_fillings(words, given):
    """All fillings, line by line, a column being followed only while some word goes on like it."""
    beginnings = {word[:length] for word in words for length in range(10)}
    ways = [lines_for(words, line) for line in given]
    begun = [()]
    for number in range(len(given)):
        longer = [sheet + (line,) for sheet in begun for line in ways[number]]
        begun = [
            sheet for sheet in longer
            if all("".join(column).split("#")[-1] in beginnings for column in zip(*sheet))
        ]
    return {sheet for sheet in begun if is_told(words, given, sheet)}


def words_at_random(chance, lengths, letters, number):
    words = set()
    while len(words) < number:
        words.add("".join(chance.choice(letters) for at in range(chance.choice(lengths))))
    return sorted(words)


def filled_at_random(chance, floor, letters):
    return tuple("".join("#" if sign == "#" else chance.choice(letters) for sign in line) for line in floor)


@functools.cache
def cells_on(floor):
    return [row[2] for row in rows_of(floor)]


def cells_of(sheet):
    """The cells of each row, looked for once for each floor."""
    return cells_on(tuple(re.sub("[^#]", ".", line) for line in sheet))


def signs_at(sheet, place):
    return "".join(sheet[line][column] for line, column in cells_of(sheet)[place])


def fitting(worths, sheet, place):
    wanted = [(at, sign) for at, sign in enumerate(signs_at(sheet, place)) if sign != "."]
    length = len(cells_of(sheet)[place])
    return [word for word in worths if len(word) == length and all(word[at] == sign for at, sign in wanted)]


def left(worths, sheet, place):
    others = [signs_at(sheet, other) for other in range(len(cells_of(sheet))) if other != place]
    return {word for word in fitting(worths, sheet, place) if word not in others}


def with_word(sheet, place, word):
    lines = [list(line) for line in sheet]
    for (line, column), letter in zip(cells_of(sheet)[place], word, strict=True):
        lines[line][column] = letter
    return tuple("".join(line) for line in lines)


def goes_by_cases(paper, worths, sheet, part_holds):
    if paper.place not in range(len(cells_of(sheet))):
        return False
    words = [word for word, part in paper.parts]
    if len(words) != len(set(words)) or set(words) != left(worths, sheet, paper.place):
        return False
    return all(part_holds(part, with_word(sheet, paper.place, word)) for word, part in paper.parts)


def told_closed(paper, worths, sheet, told):
    """Whether a paper closes a sheet, by another road than the program's."""
    if isinstance(paper, Cases):
        return goes_by_cases(paper, worths, sheet, lambda part, after: told_closed(part, worths, after, told))
    return isinstance(paper, Whole) and "." not in "".join(sheet) and any(sheet == other for other in told)


def told_bounded(paper, worths, sheet, most):
    """Whether a paper bounds a sheet, by another road than the program's."""
    if isinstance(paper, Cases):
        return goes_by_cases(paper, worths, sheet, lambda part, after: told_bounded(part, worths, after, most))
    if isinstance(paper, Whole):
        return False
    greatest = [[worths[word] for word in fitting(worths, sheet, place)] for place in range(len(cells_of(sheet)))]
    return not all(greatest) or sum(map(max, greatest)) <= most


def letters_at_random(chance):
    if chance.random() < 0.2:
        return chance.choice(NAMES)
    return "".join(chance.choice("abcklmz") for at in range(chance.randint(1, 9)))


def working_at_random(chance, depth):
    kind = chance.choice(NAMES)
    if depth == 1 or kind == "word":
        return ("word", letters_at_random(chance))
    part = working_at_random(chance, depth - 1)
    if kind == "back":
        return ("back", part)
    if kind == "join":
        return ("join", part, working_at_random(chance, depth - 1))
    if kind == "mix":
        return ("mix", part, letters_at_random(chance))
    if kind == "within":
        return ("within", part, chance.choice((0, 7, 10, 999)), chance.randrange(1000))
    return ("less", part, chance.randrange(1000))


def plain_workings(words, most):
    """All plain workings of at most so many steps, made from their words on: a list for each text that they make."""
    levels = [[], [(word, ("word", word)) for word in words]]
    for number in range(2, most + 1):
        level = [(text[::-1], ("back", part)) for text, part in levels[number - 1]]
        if number == 2:
            for word in words:
                level.extend(steps_of_a_word(word))
        for share in range(1, number - 1):
            for (text, part), (other, behind) in itertools.product(levels[share], levels[number - 1 - share]):
                level.append((text + other, ("join", part, behind)))
        levels.append(level)
    told = {}
    for level in levels[:most + 1]:
        for text, working in level:
            told.setdefault(text, []).append(working)
    return told


def steps_of_a_word(word):
    """Each mix, within and less of a word, with what it makes."""
    part = ("word", word)
    length = len(word)
    mixes = {"".join(letters) for letters in itertools.permutations(word)} - {word}
    cuts = [(start, end) for start, end in itertools.combinations(range(length + 1), 2) if end - start < length]
    told = [(text, ("mix", part, text)) for text in sorted(mixes)]
    told += [(word[start:end], ("within", part, start, end)) for start, end in cuts]
    return told + [(word[:at] + word[at + 1:], ("less", part, at)) for at in range(length)]
