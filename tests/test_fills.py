"""Fillings: points 2, 3, 18 and 20."""

import itertools
import random
import unittest

from crosswright.books import Book
from crosswright.errors import CrossError, NoFloor
from crosswright.fills import fillings
from crosswright.papers import Paper, Whole
from crosswright.rows import need_floor, rows_of
from crosswright.sheets import agrees
from reckoning import FLOORS, all_fillings, book_of, filled_at_random, is_told, rows_in, words_at_random

WORDS = ("ab", "cd", "ac", "bd")
EMPTY = ("..", "..")
SQUARE = ("ab", "cd")
OTHER = ("ac", "bd")


class Fills(unittest.TestCase):
    def hold(self, words, sheet, most, want=None):
        """Everything that is promised of the fillings told and of the paper."""
        want = all_fillings(words, sheet) if want is None else want
        book = book_of(words)
        answer = fillings(book, sheet, most)
        self.assertIs(type(answer), tuple)
        told, paper = answer
        self.assertIs(type(told), list)
        self.assertEqual(len(told), len(set(told)))
        self.assertEqual(len(told), min(most, len(want)))
        for filling in told:
            self.assertIs(type(filling), tuple)
            self.assertIn(filling, want)
            self.assertTrue(agrees(filling, sheet))
        if len(want) >= most:
            self.assertIsNone(paper)
            return told
        self.assertIsInstance(paper, Paper)
        self.assertIs(paper.closes(book, sheet, told), True)
        for number in range(len(told)):
            self.assertIs(paper.closes(book, sheet, told[:number] + told[number + 1:]), False)
        return told


class Ordinary(Fills):
    def test_two_fillings(self):
        for most in (1, 2, 3, 4, 300):
            self.hold(WORDS, EMPTY, most, {SQUARE, OTHER})

    def test_two_where_it_is_left_out(self):
        book = book_of(WORDS)
        told, paper = fillings(book, EMPTY)
        self.assertEqual(sorted(told), [SQUARE, OTHER])
        self.assertIsNone(paper)
        told, paper = fillings(book, (".b", ".."))
        self.assertEqual(told, [SQUARE])
        self.assertIs(paper.closes(book, (".b", ".."), told), True)
        # Of a great many.
        told, paper = fillings(book_of([a + b for a in "wxyz" for b in "wxyz"]), EMPTY)
        self.assertEqual(len(set(told)), 2)
        self.assertIsNone(paper)

    def test_arguments_by_their_names(self):
        told, paper = fillings(book=book_of(WORDS), sheet=EMPTY, most=3)
        self.assertEqual(sorted(told), [SQUARE, OTHER])
        self.assertIsInstance(paper, Paper)

    def test_letters_that_are_given(self):
        for sheet, want in (
            (("a.", ".."), {SQUARE, OTHER}), (("..", ".d"), {SQUARE, OTHER}), ((".b", ".."), {SQUARE}),
            (("..", "b."), {OTHER}), (("ab", ".."), {SQUARE}), (("a.", "c."), {SQUARE}), (("ab", "c."), {SQUARE}),
            (SQUARE, {SQUARE}), (OTHER, {OTHER}),
        ):
            for most in (1, 2, 3):
                self.hold(WORDS, sheet, most, want)

    def test_letters_that_no_filling_has(self):
        for sheet in (
            ("b.", ".."), ("..", ".a"), ("z.", ".."), (".b", "b."), (".c", "c."), ("ab", "b."), ("zz", ".."),
            ("zz", "zz"), ("ab", "cc"), ("ab", "ab"), ("bd", ".."), ("cd", "ab"),
        ):
            for most in (1, 2, 300):
                self.hold(WORDS, sheet, most, set())

    def test_without_a_word_less(self):
        for word in WORDS:
            self.hold([other for other in WORDS if other != word], EMPTY, 2, set())
        self.hold((), EMPTY, 1, set())
        self.hold(("abc", "abcd"), EMPTY, 1, set())

    def test_no_word_in_two_rows(self):
        # Each filling would have a word across and down.
        self.hold(("ab", "ba"), EMPTY, 3, set())
        self.hold(("aa",), EMPTY, 3, set())
        self.hold(("ab", "cd", "ac", "bd", "aa"), ("aa", ".."), 3, set())
        # In two blocks that don't touch: the same words would fill both, in two ways.
        two = ("..##", "..##", "##..", "##..")
        self.hold(WORDS, two, 3, set())
        more = WORDS + ("ef", "gh", "eg", "fh")
        self.assertEqual(len(self.hold(more, two, 300)), 8)

    def test_without_open_cells(self):
        for sheet in (("#",), ("##", "##"), ("#" * 9,) * 9):
            for words in ((), WORDS):
                self.assertEqual(self.hold(words, sheet, 1, {sheet}), [sheet])
                self.assertEqual(self.hold(words, sheet, 2, {sheet}), [sheet])
                self.assertEqual(fillings(book_of(words), sheet)[0], [sheet])
                self.assertIsInstance(fillings(book_of(words), sheet)[1], Whole)

    def test_numbers_beyond_those_told(self):
        self.hold(WORDS, EMPTY, 301, {SQUARE, OTHER})
        self.hold(WORDS, EMPTY, 1000, {SQUARE, OTHER})
        # As many as none are there whatever the sheet.
        self.assertEqual(fillings(book_of(WORDS), EMPTY, 0), ([], None))
        self.assertEqual(fillings(Book(), EMPTY, 0), ([], None))

    def test_three_hundred_of_many(self):
        words = [a + b for a in "abcdefghijklmnop" for b in "abcdefghijklmnop"]
        told, paper = fillings(book_of(words), EMPTY, 300)
        self.assertEqual(len(set(told)), 300)
        self.assertIsNone(paper)
        self.assertTrue(all(is_told(words, EMPTY, filling) for filling in told))

    def test_nothing_is_changed_and_what_is_told_is_the_askers_own(self):
        book = book_of(WORDS)
        sheet = ("a.", "..")
        told, paper = fillings(book, sheet, 3)
        again, other = fillings(book, sheet, 3)
        self.assertEqual(sorted(again), sorted(told))
        self.assertIsNot(again, told)
        self.assertEqual(sheet, ("a.", ".."))
        self.assertEqual(book.words(), sorted(WORDS))
        again.clear()
        other.parts.clear()
        self.assertEqual(sorted(told), [SQUARE, OTHER])
        self.assertIs(paper.closes(book, sheet, told), True)
        self.assertEqual(sorted(fillings(book, sheet, 3)[0]), [SQUARE, OTHER])
        book.drop("cd")
        self.assertEqual(sorted(told), [SQUARE, OTHER])
        self.assertEqual(fillings(book, sheet, 3)[0], [])

    def test_worths_do_not_matter(self):
        book = Book()
        for word, worth in zip(WORDS, (0, 5, 10 ** 59, 1)):
            book.put(word, worth)
        self.assertEqual(sorted(fillings(book, EMPTY, 3)[0]), [SQUARE, OTHER])


class Small(Fills):
    """Small floors and books, held against all fillings found another way."""

    def test_every_small_book_of_two_letters(self):
        pairs = [a + b for a in "ab" for b in "ab"] + ["ac", "ca", "cb"]
        for number in range(len(pairs) + 1):
            for words in itertools.combinations(pairs, number):
                want = all_fillings(words, EMPTY)
                for most in (1, 2, 3, len(want) + 1):
                    self.hold(words, EMPTY, most, want)

    def test_every_sheet_of_two_lines(self):
        words = ("ab", "ba", "ac", "ca", "bc", "cb", "aa")
        for signs in itertools.product(".abc", repeat=4):
            sheet = ("".join(signs[:2]), "".join(signs[2:]))
            self.hold(words, sheet, 2)
            self.hold(words, sheet, 9)

    def test_floors_and_books(self):
        chance = random.Random(3)
        several = 0
        for floor in FLOORS:
            lengths = [len(run) for run in rows_in(floor)] or [2]
            for turn in range(14):
                words = words_at_random(chance, lengths, "ab" if max(lengths) > 2 else "abc", chance.choice((4, 6)))
                grid = filled_at_random(chance, floor, "ab")
                # So that there is a filling now and then.
                words = sorted(set(words) | set(rows_in(grid) if turn % 2 else ()))
                want = all_fillings(words, floor)
                several += len(want) > 1
                for most in (1, 2, 3, len(want), len(want) + 1, 300):
                    if most > 0:
                        self.hold(words, floor, most, want)
        self.assertGreater(several, 20)

    def test_floors_and_books_with_letters_given(self):
        chance = random.Random(4)
        ends = {0: 0, 1: 0, 2: 0}
        for floor in FLOORS:
            lengths = [len(run) for run in rows_in(floor)] or [2]
            for turn in range(20):
                grid = filled_at_random(chance, floor, "abc")
                words = words_at_random(chance, lengths, "abc", 6) + rows_in(grid)
                sheet = tuple(
                    "".join(sign if sign == "#" or chance.random() < 0.3 else "." for sign in line) for line in grid
                )
                if turn % 4 == 0:
                    sheet = tuple(line.replace("a", "b") for line in sheet)
                want = all_fillings(set(words), sheet)
                ends[min(2, len(want))] += 1
                self.hold(sorted(set(words)), sheet, 2, want)
                self.hold(sorted(set(words)), sheet, len(want) + 1, want)
        self.assertGreater(min(ends.values()), 20)


class Great(Fills):
    """Greater sheets with many words."""

    LETTERS = "eeeeeettttaaaaooooiiiinnnssshhhrrrddlluucmwfgypbvk"

    def great(self, seed, floor, number):
        """Some more words than so many, and a filling of them."""
        chance = random.Random(seed)
        grid = filled_at_random(chance, floor, self.LETTERS)
        lengths = [len(run) for run in rows_in(floor)]
        words = set(words_at_random(chance, lengths, self.LETTERS, number)) | set(rows_in(grid))
        return sorted(words), grid

    def test_five_lines_of_five(self):
        floor = ("." * 5,) * 5
        words, grid = self.great(5, floor, 150)
        turned = tuple("".join(column) for column in zip(*grid))
        want = all_fillings(words, floor)
        self.assertLessEqual({grid, turned}, want)
        for most in (1, 2, 300):
            self.hold(words, floor, most, want)
        fewer = [word for word in words if word != grid[2]]
        self.hold(fewer, floor, 2, all_fillings(fewer, floor))

    def test_five_lines_with_shut_corners(self):
        for seed, floor in (
            (6, ("...##", ".....", ".....", ".....", "##...")), (7, ("#...#", ".....", ".....", ".....", "#...#")),
            (8, ("..#..", ".....", ".....", ".....", "..#..")),
        ):
            words, grid = self.great(seed, floor, 200)
            want = all_fillings(words, floor)
            self.assertIn(grid, want)
            self.hold(words, floor, 300, want)
            self.hold(words, floor, 1, want)

    def test_six_lines_of_six(self):
        floor = ("." * 6,) * 6
        words, grid = self.great(9, floor, 150)
        told = self.hold(words, floor, 300, all_fillings(words, floor))
        self.assertIn(grid, told)

    def test_nine_lines_of_nine(self):
        floor = (
            "...##....", "...#.....", "...#.....", ".....#...", "#.......#", "...#.....", ".....#...", ".....#...",
            "....##...",
        )
        self.assertIsNone(need_floor(floor))
        words, grid = self.great(10, floor, 230)
        self.assertLessEqual(len(words), 300)
        book = book_of(words)
        told, paper = fillings(book, floor, 300)
        self.assertIn(grid, told)
        self.assertTrue(all(is_told(words, floor, filling) for filling in told))
        self.assertIs(paper.closes(book, floor, told), True)
        given = (grid[0],) + floor[1:]
        told, paper = fillings(book, given)
        self.assertIn(grid, told)
        # With a word less that no other row can stand for.
        book.drop(rows_in(grid)[4])
        told, paper = fillings(book, given)
        self.assertNotIn(grid, told)
        self.assertIs(paper.closes(book, given, told), True)

    def test_nine_open_lines_of_nine(self):
        floor = ("." * 9,) * 9
        words, grid = self.great(11, floor, 280)
        turned = tuple("".join(column) for column in zip(*grid))
        book = book_of(words)
        told, paper = fillings(book, floor, 3)
        self.assertEqual(set(told), {grid, turned})
        self.assertIs(paper.closes(book, floor, told), True)
        self.assertIs(paper.closes(book, floor, told[:1]), False)


class Floors(unittest.TestCase):
    def refused(self, book, sheet, *most):
        with self.assertRaises(CrossError) as caught:
            fillings(book, sheet, *most)
        self.assertIs(type(caught.exception), NoFloor)
        return caught.exception.cell

    def test_the_first_cell_that_is_not_let_by(self):
        for book in (Book(), book_of(WORDS)):
            self.assertEqual(self.refused(book, (".",)), (0, 0))
            self.assertEqual(self.refused(book, ("..",)), (0, 0))
            self.assertEqual(self.refused(book, ("#.", "..")), (1, 1))
            self.assertEqual(self.refused(book, ("...", ".#.", "...")), (0, 1))
            self.assertEqual(self.refused(book, ("ab", "c#"), 1), (0, 0))
            self.assertEqual(self.refused(book, ("ab#", "cd#"), 300), (0, 0))

    def test_every_small_floor(self):
        book = book_of(WORDS)
        for signs in itertools.product(".#", repeat=9):
            sheet = tuple("".join(signs[at:at + 3]) for at in (0, 3, 6))
            try:
                need_floor(sheet)
            except NoFloor as error:
                self.assertEqual(self.refused(book, sheet), error.cell)
            else:
                told, paper = fillings(book, sheet)
                self.assertTrue(told == [] or not rows_of(sheet))


if __name__ == "__main__":
    unittest.main()
