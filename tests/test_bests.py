"""The best: points 2, 3 and 22."""

import itertools
import random
import unittest

from crosswright.bests import best
from crosswright.errors import CrossError, NoFloor
from crosswright.filled import worth_of
from crosswright.papers import Paper
from crosswright.rows import need_floor
from crosswright.sheets import agrees
from reckoning import (
    FLOORS, all_fillings, book_of, filled_at_random, is_told, rows_in, told_bounded, told_closed, words_at_random,
    worth_in,
)

EMPTY = ("..", "..")
SQUARE = ("ab", "cd")
OTHER = ("ac", "bd")
WORTHS = {"ab": 1, "cd": 2, "ac": 4, "bd": 8}
GREATEST = int("9" * 60)
# Worths of many sorts: none, all alike, small, great, and such as one word outweighs all others.
SORTS = (
    (0,), (1,), (GREATEST,), (0, 1), (0, 1, 2, 3), tuple(range(50)), (0, 0, 0, 10 ** 59), (GREATEST, GREATEST - 1),
    (1, 10, 100, 1000, 10000),
)


class Best(unittest.TestCase):
    def hold(self, worths, sheet, fillings=None):
        """Everything that is promised of the best and its paper, by all fillings found another way."""
        fillings = all_fillings(worths, sheet) if fillings is None else fillings
        book = book_of(worths)
        answer = best(book, sheet)
        self.assertIs(type(answer), tuple)
        filling, worth, paper = answer
        self.assertIsInstance(paper, Paper)
        if not fillings:
            self.assertIsNone(filling)
            self.assertIsNone(worth)
            self.assertIs(paper.closes(book, sheet, []), True)
            self.assertTrue(told_closed(paper, worths, sheet, []))
            return answer
        self.assertIs(type(filling), tuple)
        self.assertIs(type(worth), int)
        self.assertIn(filling, fillings)
        self.assertTrue(agrees(filling, sheet))
        self.assertEqual(worth, max(worth_in(worths, other) for other in fillings))
        self.assertEqual(worth, worth_in(worths, filling))
        self.assertEqual(worth, worth_of(book, filling))
        self.assertIs(paper.bounds(book, sheet, worth), True)
        self.assertIs(paper.bounds(book, sheet, worth + 1), True)
        self.assertIs(paper.bounds(book, sheet, worth - 1), False)
        self.assertTrue(told_bounded(paper, worths, sheet, worth))
        return answer


class Ordinary(Best):
    def test_alike(self):
        # Both fillings have the same words.
        self.assertEqual(self.hold(WORTHS, EMPTY, {SQUARE, OTHER})[1], 15)

    def test_the_better_of_two(self):
        worths = {"abc": 1, "def": 1, "ad": 1, "be": 1, "cf": 1, "xbc": 0, "xd": 2}
        self.assertEqual(self.hold(worths, ("...", "..."))[:2], (("abc", "def"), 5))
        worths["xd"] = 3
        self.assertEqual(self.hold(worths, ("...", "..."))[:2], (("xbc", "def"), 6))
        worths["xbc"] = GREATEST
        self.assertEqual(self.hold(worths, ("...", "..."))[:2], (("xbc", "def"), GREATEST + 6))
        self.assertEqual(self.hold(worths, ("a..", "..."))[:2], (("abc", "def"), 5))

    def test_letters_that_are_given(self):
        for sheet, want in (
            ((".b", ".."), SQUARE), (("..", "b."), OTHER), (("ab", ".."), SQUARE), (("a.", "c."), SQUARE),
        ):
            self.assertEqual(self.hold(WORTHS, sheet, {want})[:2], (want, 15))

    def test_letters_that_no_filling_has(self):
        for sheet in (("b.", ".."), ("..", ".a"), (".b", "b."), ("ab", "b."), ("zz", ".."), ("bd", "..")):
            self.hold(WORTHS, sheet, set())

    def test_full_sheets(self):
        for sheet in (SQUARE, OTHER):
            self.assertEqual(self.hold(WORTHS, sheet, {sheet})[:2], (sheet, 15))
        for sheet in (("zz", "zz"), ("ab", "cc"), ("ab", "ab"), ("cd", "ab")):
            self.hold(WORTHS, sheet, set())
        # Two rows with one word.
        self.hold({"ab": 1, "ba": 2}, ("ab", "ba"), set())
        self.hold({"aa": 5}, ("aa", "aa"), set())

    def test_without_a_filling(self):
        self.hold({}, EMPTY, set())
        self.hold({"abc": 5}, EMPTY, set())
        for word in WORTHS:
            self.hold({other: WORTHS[other] for other in WORTHS if other != word}, EMPTY, set())
        # Words that would bring much, were one let stand in two rows.
        self.hold({"ab": GREATEST, "ba": GREATEST}, EMPTY, set())

    def test_without_open_cells(self):
        for sheet in (("#",), ("##", "##"), ("#" * 9,) * 9):
            for worths in ({}, WORTHS):
                filling, worth, paper = self.hold(worths, sheet, {sheet})
                self.assertEqual((filling, worth), (sheet, 0))

    def test_a_word_that_fits_but_is_taken(self):
        # The greatest word fits each row, but stands in one alone.
        worths = {"aa": 100, "ab": 1, "ba": 2, "bb": 3, "ac": 4, "ca": 5, "cc": 6}
        self.hold(worths, EMPTY)
        self.hold(worths, ("a.", ".."))
        self.hold(worths, ("aa", ".."))

    def test_arguments_by_their_names(self):
        self.assertEqual(best(book=book_of(WORTHS), sheet=(".b", ".."))[:2], (SQUARE, 15))

    def test_nothing_is_changed_and_what_is_told_is_the_askers_own(self):
        book = book_of(WORTHS)
        sheet = ("a.", "..")
        filling, worth, paper = best(book, sheet)
        again = best(book, sheet)
        self.assertEqual(again[:2], (filling, worth))
        self.assertEqual(sheet, ("a.", ".."))
        self.assertEqual({word: book.worth(word) for word in book.words()}, WORTHS)
        again[2].parts.clear()
        self.assertIs(paper.bounds(book, sheet, worth), True)
        book.drop("cd")
        self.assertEqual((filling, worth), (filling, 15))
        self.assertEqual(best(book, sheet)[:2], (None, None))


class Small(Best):
    """Small floors and books with worths of many sorts."""

    def test_every_small_book_of_two_letters(self):
        chance = random.Random(31)
        pairs = [a + b for a in "ab" for b in "ab"] + ["ac", "ca", "cb"]
        for number in range(len(pairs) + 1):
            for words in itertools.combinations(pairs, number):
                fillings = all_fillings(words, EMPTY)
                for sort in chance.sample(SORTS, 3):
                    self.hold({word: chance.choice(sort) for word in words}, EMPTY, fillings)

    def test_every_sheet_of_two_lines(self):
        worths = {"ab": 3, "ba": 0, "ac": 10 ** 40, "ca": 3, "bc": 7, "cb": 10 ** 40 + 1, "aa": 10 ** 59}
        for signs in itertools.product(".abc", repeat=4):
            self.hold(worths, ("".join(signs[:2]), "".join(signs[2:])))

    def test_floors_and_books(self):
        chance = random.Random(32)
        ends = {"none": 0, "alike": 0, "unlike": 0}
        for floor in FLOORS:
            lengths = [len(run) for run in rows_in(floor)] or [2]
            for turn, sort in enumerate(SORTS * 2):
                words = words_at_random(chance, lengths, "ab" if max(lengths) > 2 else "abc", chance.choice((4, 6)))
                if turn % 2:
                    words = sorted(set(words) | set(rows_in(filled_at_random(chance, floor, "abc"))))
                worths = {word: chance.choice(sort) for word in words}
                fillings = all_fillings(words, floor)
                several = len({worth_in(worths, filling) for filling in fillings})
                ends["none" if not fillings else "alike" if several == 1 else "unlike"] += 1
                self.hold(worths, floor, fillings)
        self.assertGreater(min(ends.values()), 20)

    def test_floors_and_books_with_letters_given(self):
        chance = random.Random(33)
        ends = {True: 0, False: 0}
        for floor in FLOORS:
            lengths = [len(run) for run in rows_in(floor)] or [2]
            for turn, sort in enumerate(SORTS * 2):
                grid = filled_at_random(chance, floor, "abc")
                words = set(words_at_random(chance, lengths, "abc", 8)) | set(rows_in(grid))
                share = (0.15, 0.5, 1)[turn % 3]
                sheet = tuple(
                    "".join(sign if sign == "#" or chance.random() < share else "." for sign in line) for line in grid
                )
                if turn % 4 == 0:
                    sheet = tuple(line.replace("a", "b") for line in sheet)
                worths = {word: chance.choice(sort) for word in sorted(words)}
                ends[self.hold(worths, sheet)[0] is None] += 1
        self.assertGreater(min(ends.values()), 30)

    def test_books_with_all_words(self):
        chance = random.Random(34)
        words = ["".join(signs) for length in (2, 3) for signs in itertools.product("abc", repeat=length)]
        for floor in (("..", ".."), ("...", "..."), ("#..", "...", "..#")):
            fillings = all_fillings(words, floor)
            for sort in SORTS:
                self.hold({word: chance.choice(sort) for word in words}, floor, fillings)


class Great(Best):
    """Greater sheets."""

    LETTERS = "eeeeettttaaaoooiiinnnsshhrrddllu"

    def test_five_lines_and_more(self):
        chance = random.Random(35)
        for floor in (
            ("." * 5,) * 5, ("." * 6,) * 6, ("." * 6,) * 5, ("...##", ".....", ".....", ".....", "##..."),
            ("..#..", ".....", ".....", ".....", "..#.."),
        ):
            lengths = [len(run) for run in rows_in(floor)]
            grid = filled_at_random(chance, floor, self.LETTERS)
            words = set(words_at_random(chance, lengths, self.LETTERS, 100)) | set(rows_in(grid))
            worths = {word: chance.choice((0, 3, 17, 10 ** 30)) for word in sorted(words)}
            fillings = all_fillings(worths, floor)
            self.assertIn(grid, fillings)
            self.hold(worths, floor, fillings)
            # One row less than the filling has, so that there may be none.
            worths.pop(rows_in(grid)[1])
            self.hold(worths, floor)

    def test_five_lines_of_few_letters(self):
        chance = random.Random(36)
        floor = ("." * 5,) * 5
        worths = {word: chance.randrange(10) for word in words_at_random(chance, [5], "abc", 60)}
        book = book_of(worths)
        filling, worth, paper = best(book, floor)
        self.assertTrue(is_told(worths, floor, filling))
        self.assertEqual(worth, worth_in(worths, filling))
        self.assertIs(paper.bounds(book, floor, worth), True)
        self.assertIs(paper.bounds(book, floor, worth - 1), False)

    def test_nine_lines_of_nine(self):
        floor = (
            "...##....", "...#.....", "...#.....", ".....#...", "#.......#", "...#.....", ".....#...", ".....#...",
            "....##...",
        )
        chance = random.Random(37)
        grid = filled_at_random(chance, floor, self.LETTERS + "vwxyzbcfgjk")
        words = set(words_at_random(chance, [9, 7, 5, 4, 3], self.LETTERS + "vwxyzbcfgjk", 230)) | set(rows_in(grid))
        worths = {word: chance.randrange(10 ** 6) for word in sorted(words)}
        book = book_of(worths)
        filling, worth, paper = best(book, floor)
        self.assertTrue(is_told(worths, floor, filling))
        self.assertGreaterEqual(worth, worth_in(worths, grid))
        self.assertEqual(worth, worth_in(worths, filling))
        self.assertIs(paper.bounds(book, floor, worth), True)


class Floors(unittest.TestCase):
    def refused(self, worths, sheet):
        with self.assertRaises(CrossError) as caught:
            best(book_of(worths), sheet)
        self.assertIs(type(caught.exception), NoFloor)
        return caught.exception.cell

    def test_the_first_cell_that_is_not_let_by(self):
        for worths in ({}, WORTHS):
            self.assertEqual(self.refused(worths, (".",)), (0, 0))
            self.assertEqual(self.refused(worths, ("..",)), (0, 0))
            self.assertEqual(self.refused(worths, ("#.", "..")), (1, 1))
            self.assertEqual(self.refused(worths, ("...", ".#.", "...")), (0, 1))
            self.assertEqual(self.refused(worths, ("ab", "c#")), (0, 0))
            self.assertEqual(self.refused(worths, ("ab#", "cd#")), (0, 0))

    def test_every_small_floor(self):
        for signs in itertools.product(".#", repeat=9):
            sheet = tuple("".join(signs[at:at + 3]) for at in (0, 3, 6))
            try:
                need_floor(sheet)
            except NoFloor as error:
                self.assertEqual(self.refused(WORTHS, sheet), error.cell)
            else:
                self.assertEqual(best(book_of(WORTHS), sheet)[1], None if "." in "".join(sheet) else 0)


if __name__ == "__main__":
    unittest.main()
