"""Least givens: points 2, 3 and 21."""

import itertools
import random
import unittest

from crosswright.errors import CrossError, NoFloor, NotFilled
from crosswright.givens import least
from crosswright.rows import need_floor
from crosswright.sheets import agrees
from reckoning import FLOORS, all_fillings, book_of, filled_at_random, is_told, rows_in, words_at_random

WORDS = ("ab", "cd", "ac", "bd")
SQUARE = ("ab", "cd")
OTHER = ("ac", "bd")


def is_part(givens, filling):
    """Whether givens are a filling with some of its letters freed."""
    if [len(line) for line in givens] != [len(line) for line in filling]:
        return False
    return all(
        sign == letter or (sign == "." and letter != "#")
        for sign, letter in zip("".join(givens), "".join(filling))
    )


def given_cells(givens):
    return [
        (line, column) for line, signs in enumerate(givens) for column, sign in enumerate(signs) if sign not in "#."
    ]


def without(givens, cell):
    lines = [list(line) for line in givens]
    lines[cell[0]][cell[1]] = "."
    return tuple("".join(line) for line in lines)


class Givens(unittest.TestCase):
    def hold(self, words, filling, floor_fillings=None):
        """Everything that is promised of the givens and the seconds, by all fillings found another way."""
        if floor_fillings is None:
            floor_fillings = all_fillings(words, tuple("".join("#" if s == "#" else "." for s in t) for t in filling))
        book = book_of(words)
        answer = least(book, filling)
        self.assertIs(type(answer), tuple)
        givens, seconds = answer
        self.assertIs(type(givens), tuple)
        self.assertIs(type(seconds), list)
        self.assertTrue(is_part(givens, filling))
        agreeing = [other for other in floor_fillings if is_told(words, givens, other)]
        self.assertEqual(agreeing, [filling])
        self.assertEqual([cell for cell, other in seconds], given_cells(givens))
        for second in seconds:
            self.assertIs(type(second), tuple)
            cell, other = second
            self.assertNotEqual(other, filling)
            self.assertIn(other, floor_fillings)
            self.assertTrue(is_told(words, without(givens, cell), other))
            self.assertTrue(agrees(other, without(givens, cell)))
            self.assertFalse(agrees(other, givens))
        return givens, seconds


class Ordinary(Givens):
    def test_one_of_two(self):
        # The two fillings are unlike in two cells; a letter in either of them tells which.
        for filling, other in ((SQUARE, OTHER), (OTHER, SQUARE)):
            givens, seconds = self.hold(WORDS, filling, {SQUARE, OTHER})
            self.assertEqual(len(seconds), 1)
            self.assertEqual(seconds[0][1], other)

    def test_the_only_one(self):
        for more in ((), ("zz", "zy", "xyz", "dab")):
            givens, seconds = self.hold(("abc", "def", "ad", "be", "cf") + more, ("abc", "def"))
            self.assertEqual(givens, ("...", "..."))
            self.assertEqual(seconds, [])

    def test_without_open_cells(self):
        for sheet in (("#",), ("##", "##"), ("#" * 9,) * 9):
            for words in ((), WORDS):
                self.assertEqual(least(book_of(words), sheet), (sheet, []))

    def test_shut_cells_stay_shut(self):
        words = ("ab", "cd", "ac", "bd", "ef", "gh", "eg", "fh")
        filling = ("ab##", "cd##", "##ef", "##gh")
        givens, seconds = self.hold(words, filling)
        self.assertEqual("".join(givens).count("#"), 8)
        # Which block has which words, and for each of them which way they lie.
        self.assertEqual(len(seconds), 2)

    def test_many_words_fit_everywhere(self):
        for letters, filling in (
            ("abc", ("aab", "bcc", "cab")), ("abcd", ("abcd", "bdac")), ("ab", ("ab", "aa", "ba")),
        ):
            lengths = {len(run) for run in rows_in(filling)}
            words = ["".join(signs) for length in lengths for signs in itertools.product(letters, repeat=length)]
            self.assertGreater(len(self.hold(words, filling)[1]), 2)

    def test_arguments_by_their_names(self):
        givens, seconds = least(book=book_of(WORDS), filling=SQUARE)
        self.assertEqual(len(seconds), 1)

    def test_nothing_is_changed_and_what_is_told_is_the_askers_own(self):
        worths = {"ab": 1, "cd": 20, "ac": 0, "bd": 10 ** 59}
        book = book_of(worths)
        filling = ("ab", "cd")
        givens, seconds = least(book, filling)
        kept = list(seconds)
        self.assertEqual(filling, ("ab", "cd"))
        self.assertEqual({word: book.worth(word) for word in book.words()}, worths)
        again = least(book, filling)
        self.assertEqual(again, (givens, seconds))
        self.assertIsNot(again[1], seconds)
        again[1].clear()
        self.assertEqual(least(book, filling), (givens, kept))
        book.drop("bd")
        self.assertEqual(seconds, kept)
        with self.assertRaises(NotFilled):
            least(book, filling)


class Small(Givens):
    """Small floors and books, each filling of them."""

    def test_every_small_book_of_two_letters(self):
        pairs = [a + b for a in "ab" for b in "ab"] + ["ac", "ca", "cb"]
        for number in range(len(pairs) + 1):
            for words in itertools.combinations(pairs, number):
                told = all_fillings(words, ("..", ".."))
                for filling in told:
                    self.hold(words, filling, told)

    def test_floors_and_books(self):
        chance = random.Random(21)
        numbers = {"none": 0, "some": 0, "all": 0}
        for floor in FLOORS:
            lengths = [len(run) for run in rows_in(floor)] or [2]
            for turn in range(16):
                letters = ("abcdefgh", "abc", "ab", "abcd")[turn % 4]
                grid = filled_at_random(chance, floor, letters)
                if len(set(rows_in(grid))) < len(rows_in(grid)):
                    continue
                words = set(words_at_random(chance, lengths, letters[:3], 4)) | set(rows_in(grid))
                told = all_fillings(words, floor)
                for filling in sorted(told)[:4] + [grid]:
                    givens, seconds = self.hold(words, filling, told)
                    if not seconds:
                        numbers["none"] += 1
                    elif "." in "".join(givens):
                        numbers["some"] += 1
                    else:
                        numbers["all"] += 1
        self.assertGreater(numbers["none"], 20)
        self.assertGreater(numbers["some"], 50)

    def test_books_with_all_words(self):
        chance = random.Random(22)
        words = ["".join(signs) for length in (2, 3) for signs in itertools.product("ab", repeat=length)]
        every = 0
        for floor in FLOORS:
            if any(len(run) > 3 for run in rows_in(floor)):
                continue
            told = sorted(all_fillings(words, floor))
            for filling in chance.sample(told, min(len(told), 12)):
                givens, seconds = self.hold(words, filling, told)
                every += "." not in "".join(givens)
        self.assertGreater(every, 1)

    def test_greater_sheets(self):
        chance = random.Random(23)
        for floor in (("." * 4,) * 4, ("." * 5,) * 5, ("...##", ".....", ".....", ".....", "##...")):
            lengths = [len(run) for run in rows_in(floor)]
            grid = filled_at_random(chance, floor, "abcdefghijkl")
            words = set(words_at_random(chance, lengths, "abcdefghijkl", 120)) | set(rows_in(grid))
            self.hold(words, grid)


class Refusals(unittest.TestCase):
    def refused(self, words, sheet):
        with self.assertRaises(CrossError) as caught:
            least(book_of(words), sheet)
        return caught.exception

    def not_filled(self, words, sheet):
        self.assertIs(type(self.refused(words, sheet)), NotFilled)

    def no_floor(self, words, sheet):
        error = self.refused(words, sheet)
        self.assertIs(type(error), NoFloor)
        return error.cell

    def test_a_free_cell(self):
        for sheet in (("a.", "cd"), (".b", "cd"), ("ab", "c."), ("ab", ".d"), ("..", "..")):
            self.not_filled(WORDS, sheet)

    def test_a_word_that_is_not_in_the_book(self):
        for word in WORDS:
            self.not_filled([other for other in WORDS if other != word], SQUARE)
        self.not_filled((), SQUARE)
        self.not_filled(WORDS, ("ab", "ce"))
        self.not_filled(WORDS, ("zz", "zz"))

    def test_two_rows_with_the_same_word(self):
        self.not_filled(("ab", "ba", "bb", "aa"), ("ab", "ba"))
        self.not_filled(("aa",), ("aa", "aa"))
        self.not_filled(WORDS, ("ab##", "cd##", "##ab", "##cd"))

    def test_the_floor_first(self):
        self.assertEqual(self.no_floor(WORDS, ("ab", "c#")), (0, 0))
        self.assertEqual(self.no_floor(WORDS, ("ab#", "cd#")), (0, 0))
        # A filling of the book all the same.
        self.assertEqual(self.no_floor(("ab", "ac"), ("ab", "c#")), (0, 0))
        self.assertEqual(self.no_floor(WORDS, ("a",)), (0, 0))
        self.assertEqual(self.no_floor(WORDS, ("ab",)), (0, 0))
        # No filling either.
        for words in ((), WORDS):
            self.assertEqual(self.no_floor(words, (".",)), (0, 0))
            self.assertEqual(self.no_floor(words, ("#a", "zz")), (1, 1))
            self.assertEqual(self.no_floor(words, ("zzz", "z#.", "...")), (0, 1))

    def test_every_small_floor(self):
        for signs in itertools.product("a#", repeat=9):
            sheet = tuple("".join(signs[at:at + 3]) for at in (0, 3, 6))
            try:
                need_floor(sheet)
            except NoFloor as error:
                self.assertEqual(self.no_floor(WORDS, sheet), error.cell)
            else:
                if "a" in "".join(sheet):
                    self.not_filled(WORDS, sheet)

    def test_what_is_refused_changes_nothing(self):
        book = book_of(WORDS)
        for sheet in (("a.", "cd"), ("ab", "c#")):
            with self.assertRaises(CrossError):
                least(book, sheet)
        self.assertEqual(book.words(), sorted(WORDS))


if __name__ == "__main__":
    unittest.main()
