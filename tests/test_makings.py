"""What workings make, and their steps: points 2, 25 and 26."""

import collections
import random
import unittest

from crosswright.errors import CrossError, NoStep
from crosswright.makings import made, steps
from reckoning import book_of, working_at_random

WORDS = ("ab", "abc", "abcd", "aab", "baa", "abcdefghi", "xyz", "back", "zz")
AB = ("word", "ab")
ABC = ("word", "abc")
ABCD = ("word", "abcd")
NINE = ("word", "abcdefghi")
GONE = ("word", "cd")


class CannotBeMade(Exception):
    """The working at which a second reckoning stops."""


def told_steps(words, working):
    """The steps of a working, by another road than the program's: a list, or CannotBeMade."""
    told = []
    texts = []
    for part in working[1:]:
        if isinstance(part, tuple):
            told += told_steps(words, part)
            texts.append(told[-1][1])
    kind, text = working[0], "".join(texts)
    letters = list(text)
    if kind == "word":
        text, holds = working[1], working[1] in words
    elif kind == "back":
        text, holds = "".join(reversed(text)), True
    elif kind == "join":
        holds = len(text) < 31
    elif kind == "mix":
        holds = collections.Counter(text) == collections.Counter(working[2]) and text != working[2]
        text = working[2]
    elif kind == "within":
        places = range(working[2], working[3])
        holds = len(places) > 0 and places[-1] in range(len(letters)) and len(places) != len(letters)
        text = "".join(letters[at] for at in places) if holds else ""
    else:
        holds = working[2] in range(len(letters)) and len(letters) != 1
        text = "".join(letter for at, letter in enumerate(letters) if at != working[2])
    if not holds:
        raise CannotBeMade(working)
    return told + [(working, text)]


class Makings(unittest.TestCase):
    def makes(self, working, text, words=WORDS):
        book = book_of(words)
        answer = made(book, working)
        self.assertIs(type(answer), str)
        self.assertEqual(answer, text)
        told = steps(book, working)
        self.assertIs(type(told), list)
        self.assertTrue(all(type(step) is tuple for step in told))
        self.assertEqual(told, told_steps(words, working))
        self.assertEqual(told[-1], (working, text))

    def stops(self, working, step, words=WORDS):
        for deed in (made, steps):
            with self.assertRaises(CrossError) as caught:
                deed(book_of(words), working)
            self.assertIs(type(caught.exception), NoStep)
            self.assertEqual(caught.exception.step, step)
            self.assertIs(type(caught.exception.step), tuple)
        with self.assertRaises(CannotBeMade) as caught:
            told_steps(words, working)
        self.assertEqual(caught.exception.args[0], step)


class Kinds(Makings):
    def test_word(self):
        for word in WORDS:
            self.makes(("word", word), word)
        for word in ("cd", "a", "b", "z", "abcdefghj", "zzzzzzzzz", "bac"):
            self.stops(("word", word), ("word", word))
            self.stops(("back", ("word", word)), ("word", word))
        self.stops(AB, AB, ())

    def test_back(self):
        self.makes(("back", AB), "ba")
        self.makes(("back", NINE), "ihgfedcba")
        self.makes(("back", ("back", ABC)), "abc")
        self.makes(("back", ("word", "zz")), "zz")
        self.makes(("back", ("within", ABC, 1, 2)), "b")

    def test_join(self):
        self.makes(("join", AB, ABC), "ababc")
        self.makes(("join", ABC, AB), "abcab")
        self.makes(("join", AB, AB), "abab")
        self.makes(("join", ("back", AB), ("less", AB, 0)), "bab")

    def test_join_of_thirty_letters_and_of_more(self):
        eighteen = ("join", NINE, NINE)
        twenty_seven = ("join", eighteen, NINE)
        self.makes(("join", twenty_seven, ABC), "abcdefghi" * 3 + "abc")
        self.makes(("join", ABC, twenty_seven), "abc" + "abcdefghi" * 3)
        for working in (
            ("join", twenty_seven, ABCD), ("join", ABCD, twenty_seven), ("join", twenty_seven, NINE),
            ("join", eighteen, eighteen),
        ):
            self.stops(working, working)
            self.stops(("within", working, 0, 1), working)
        # What comes behind doesn't mend it.
        thirty_one = ("join", twenty_seven, ABCD)
        self.stops(("less", thirty_one, 0), thirty_one)
        thirty = ("join", twenty_seven, ABC)
        self.makes(("back", thirty), ("abcdefghi" * 3 + "abc")[::-1])
        self.makes(("less", thirty, 29), "abcdefghi" * 3 + "ab")
        self.makes(("join", ("less", thirty, 0), ("less", AB, 0)), "bcdefghi" + "abcdefghi" * 2 + "abc" + "b")
        self.stops(("join", thirty, ("less", AB, 0)), ("join", thirty, ("less", AB, 0)))

    def test_mix(self):
        self.makes(("mix", AB, "ba"), "ba")
        self.makes(("mix", ABC, "cab"), "cab")
        self.makes(("mix", ("word", "aab"), "aba"), "aba")
        self.makes(("mix", ("back", AB), "ab"), "ab")
        self.makes(("mix", NINE, "ihgfedcba"), "ihgfedcba")
        for part, text in (
            (AB, "ab"), (AB, "bc"), (AB, "cd"), (AB, "bac"), (AB, "b"), (AB, "a"), (AB, "aba"), (AB, "aa"), (AB, "bb"),
            (("word", "aab"), "abb"), (("word", "aab"), "ab"), (("word", "aab"), "aab"), (("word", "zz"), "zz"),
            (("back", AB), "ba"), (("join", AB, AB), "abab"), (ABC, "abd"),
        ):
            self.stops(("mix", part, text), ("mix", part, text))

    def test_within(self):
        self.makes(("within", ABCD, 0, 1), "a")
        self.makes(("within", ABCD, 0, 3), "abc")
        self.makes(("within", ABCD, 1, 4), "bcd")
        self.makes(("within", ABCD, 1, 3), "bc")
        self.makes(("within", ABCD, 3, 4), "d")
        for start, end in (
            (0, 4), (0, 0), (1, 1), (4, 4), (2, 1), (3, 0), (4, 3), (0, 5), (1, 5), (3, 5), (4, 5), (5, 6), (0, 999),
            (999, 999), (999, 0), (998, 999), (3, 999),
        ):
            self.stops(("within", ABCD, start, end), ("within", ABCD, start, end))
        one = ("within", AB, 0, 1)
        self.stops(("within", one, 0, 1), ("within", one, 0, 1))

    def test_less(self):
        for at, text in enumerate(("bcd", "acd", "abd", "abc")):
            self.makes(("less", ABCD, at), text)
        for at in (4, 5, 10, 999):
            self.stops(("less", ABCD, at), ("less", ABCD, at))
        one = ("less", AB, 1)
        self.makes(one, "a")
        for at in (0, 1, 2):
            self.stops(("less", one, at), ("less", one, at))
        self.makes(("less", ("word", "aab"), 0), "ab")
        self.makes(("less", ("word", "aab"), 1), "ab")

    def test_the_first_fault_in_the_order_of_making(self):
        other = ("word", "ef")
        bad = ("mix", AB, "ab")
        self.stops(("join", GONE, other), GONE)
        self.stops(("join", AB, other), other)
        self.stops(("join", bad, GONE), bad)
        self.stops(("join", GONE, bad), GONE)
        self.stops(("join", AB, bad), bad)
        self.stops(("less", bad, 99), bad)
        self.stops(("within", GONE, 5, 1), GONE)
        self.stops(("mix", GONE, "xx"), GONE)
        self.stops(("mix", ("less", AB, 9), "xx"), ("less", AB, 9))
        long = ("join", ("join", NINE, NINE), ("join", NINE, NINE))
        self.stops(long, long)
        self.stops(("join", long, GONE), long)
        self.stops(("join", GONE, long), GONE)
        deep = ("back", ("less", ("join", ("back", AB), ("back", GONE)), 99))
        self.stops(deep, GONE)

    def test_arguments_by_their_names(self):
        self.assertEqual(made(book=book_of(WORDS), working=("back", AB)), "ba")
        self.assertEqual(steps(book=book_of(WORDS), working=AB), [(AB, "ab")])


class Steps(Makings):
    def test_in_the_order_of_making(self):
        working = ("join", ("back", AB), ("less", ABC, 0))
        self.assertEqual(steps(book_of(WORDS), working), [
            (AB, "ab"), (("back", AB), "ba"), (ABC, "abc"), (("less", ABC, 0), "bc"), (working, "babc"),
        ])

    def test_a_part_as_often_as_it_stands_in_it(self):
        twice = ("join", AB, AB)
        self.assertEqual(steps(book_of(WORDS), twice), [(AB, "ab"), (AB, "ab"), (twice, "abab")])
        four = ("join", twice, twice)
        self.assertEqual([text for part, text in steps(book_of(WORDS), four)],
                         ["ab", "ab", "abab", "ab", "ab", "abab", "abababab"])

    def test_a_word_alone(self):
        self.assertEqual(steps(book_of(WORDS), AB), [(AB, "ab")])

    def test_thirty_deep_and_a_hundred_parts(self):
        working = AB
        for depth in range(29):
            working = ("back", working)
        self.makes(working, "ba")
        self.assertEqual(len(steps(book_of(WORDS), working)), 30)
        # A letter, joined again and again: of thirty letters at the most.
        letter = ("back", ("less", AB, 1))
        working = letter
        for depth in range(24):
            working = ("join", working, letter)
        self.assertEqual(len(steps(book_of(WORDS), working)), 99)
        self.makes(working, "a" * 25)

    def test_a_new_list(self):
        book = book_of(WORDS)
        working = ("join", AB, ABC)
        told = steps(book, working)
        kept = list(told)
        again = steps(book, working)
        self.assertIsNot(told, again)
        again.clear()
        self.assertEqual(told, kept)
        self.assertEqual(steps(book, working), kept)
        book.drop("ab")
        self.assertEqual(told, kept)
        self.assertEqual(book.words(), sorted(set(WORDS) - {"ab"}))
        self.assertEqual(working, ("join", AB, ABC))


class Many(Makings):
    def test_workings_of_all_sorts(self):
        chance = random.Random(61)
        answers = collections.Counter()
        for turn in range(4000):
            working = fitted(chance, working_at_random(chance, chance.randint(1, 5)))
            try:
                told = told_steps(WORDS, working)
            except CannotBeMade as error:
                self.stops(working, error.args[0])
                answers[False] += 1
            else:
                self.makes(working, told[-1][1])
                answers[len(told) > 2] += 1
        self.assertGreater(min(answers.values()), 300)


def fitted(chance, working):
    """A working like another one, but with words of the book and small numbers, so that it can often be made."""
    kind = working[0]
    if kind == "word":
        return ("word", chance.choice(WORDS + ("cd",)))
    parts = [fitted(chance, part) if isinstance(part, tuple) else part for part in working[1:]]
    if kind in ("less", "within"):
        parts[1:] = sorted(chance.randrange(6) for part in parts[1:])
    if kind == "mix" and chance.random() < 0.8:
        try:
            letters = list(told_steps(WORDS, parts[0])[-1][1])
        except CannotBeMade:
            letters = ["a"]
        chance.shuffle(letters)
        parts[1] = "".join(letters)
    return (kind,) + tuple(parts)


if __name__ == "__main__":
    unittest.main()
