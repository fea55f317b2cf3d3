"""Words in rows: points 2, 13, 14 and 15."""

import itertools
import re
import unittest

from crosswright.books import Book
from crosswright.filled import is_filling, pattern, put_word, words_left, worth_of
from crosswright.rows import rows_of

GREATEST = int("9" * 60)
SQUARE = ("ab", "cd")


def book_of(*words):
    book = Book()
    for number, word in enumerate(words):
        book.put(word, number)
    return book


def signs_of(sheet):
    """The pattern of each row, by another road than the program's."""
    return ["".join(sheet[line][column] for line, column in row[2]) for row in rows_of(sheet)]


def told_left(words, sheet, place):
    """The words left for a row, by another road than the program's."""
    signs = signs_of(sheet)
    own = signs.pop(place)
    # To a regular expression, too, a point is any sign and a letter is itself.
    return sorted(word for word in words if re.fullmatch(own, word) and word not in signs)


def told_filling(words, sheet):
    """Whether a sheet is a filling, by another road than the program's."""
    signs = signs_of(sheet)
    return "." not in "".join(sheet) and set(signs) <= set(words) and len(set(signs)) == len(signs)


def small_sheets(lines, columns, signs):
    for text in itertools.product(signs, repeat=lines * columns):
        yield tuple("".join(text[at:at + columns]) for at in range(0, len(text), columns))


class Patterns(unittest.TestCase):
    def test_the_signs_of_the_cells_in_turn(self):
        sheet = ("ab.", ".#c", "d.e")
        self.assertEqual(pattern(sheet, ((0, 0), (0, 1), (0, 2))), "ab.")
        self.assertEqual(pattern(sheet, ((0, 0), (1, 0), (2, 0))), "a.d")
        self.assertEqual(pattern(sheet, ((0, 2), (1, 2), (2, 2))), ".ce")
        self.assertEqual(pattern(sheet, ((2, 2), (0, 0))), "ea")
        self.assertEqual(pattern(("..",), ((0, 0), (0, 1))), "..")

    def test_of_each_row(self):
        for sheet in (("ab.", ".#c", "d.e"), ("." * 9,) * 9, ("abcdefghi",) * 9, ("a#b", "c.d"), ("#",)):
            self.assertEqual([pattern(sheet, row[2]) for row in rows_of(sheet)], signs_of(sheet))

    def test_the_kind(self):
        self.assertIs(type(pattern(SQUARE, ((0, 0), (0, 1)))), str)


class Fillings(unittest.TestCase):
    def test_a_filling(self):
        book = book_of("ab", "cd", "ac", "bd")
        self.assertIs(is_filling(book, SQUARE), True)
        self.assertIs(is_filling(book, ("ac", "bd")), True)

    def test_a_free_cell(self):
        book = book_of("ab", "cd", "ac", "bd")
        for sheet in (("a.", "cd"), (".b", "cd"), ("ab", "c."), ("..", "..")):
            self.assertIs(is_filling(book, sheet), False)
        # A free cell that stands in no row.
        self.assertIs(is_filling(book, (".",)), False)
        self.assertIs(is_filling(book, ("ab#.",)), False)
        self.assertIs(is_filling(book, ("ab#a",)), True)

    def test_a_word_that_is_not_in_the_book(self):
        words = ("ab", "cd", "ac", "bd")
        for word in words:
            book = book_of(*words)
            book.drop(word)
            self.assertIs(is_filling(book, SQUARE), False)
            book.put(word)
            self.assertIs(is_filling(book, SQUARE), True)
        self.assertIs(is_filling(Book(), SQUARE), False)

    def test_two_rows_with_one_word(self):
        # Across ab and ba, down ab and ba.
        self.assertIs(is_filling(book_of("ab", "ba"), ("ab", "ba")), False)
        # Two rows of one way.
        self.assertIs(is_filling(book_of("ab", "aa", "bb"), ("ab", "ab")), False)
        self.assertIs(is_filling(book_of("ab", "cd"), ("ab#ab",)), False)
        self.assertIs(is_filling(book_of("ab", "cd"), ("ab#cd",)), True)
        # One across and one down, and nothing else alike.
        self.assertIs(is_filling(book_of("ab", "cb"), ("ab", "b#")), False)

    def test_without_rows(self):
        for book in (Book(), book_of("ab")):
            for sheet in (("#",), ("##", "##"), ("#" * 9,) * 9, ("a",), ("a#b",), ("a#", "#b")):
                self.assertIs(is_filling(book, sheet), True)
                self.assertEqual(worth_of(book, sheet), 0)
            for sheet in ((".",), (".#a",), ("a#", "#.")):
                self.assertIs(is_filling(book, sheet), False)

    def test_floors_that_are_not_let_by(self):
        self.assertIs(is_filling(book_of("abc"), ("abc",)), True)
        self.assertIs(is_filling(book_of("abc"), ("a", "b", "c")), True)
        self.assertIs(is_filling(book_of("abc"), ("abd",)), False)
        self.assertIs(is_filling(book_of("ab", "ac"), ("ab", "c#")), True)
        self.assertIs(is_filling(book_of("ab", "bc"), ("ab", "c#")), False)

    def test_rows_are_read_from_the_left_and_from_above(self):
        self.assertIs(is_filling(book_of("ba"), ("ab",)), False)
        self.assertIs(is_filling(book_of("ba"), ("a", "b")), False)

    def test_every_small_sheet(self):
        for words in (("aa", "ab", "ba", "bb"), ("aa", "ab"), ("ab", "ba", "aba", "abb", "bab"), ()):
            book = book_of(*words)
            for lines, columns in ((1, 1), (1, 3), (3, 1), (2, 2), (2, 3)):
                for sheet in small_sheets(lines, columns, "#.ab"):
                    self.assertIs(is_filling(book, sheet), told_filling(words, sheet), sheet)

    def test_worths(self):
        book = Book()
        for word, worth in (("ab", 1), ("cd", 20), ("ac", 300), ("bd", 4000), ("zz", 50000)):
            book.put(word, worth)
        self.assertEqual(worth_of(book, SQUARE), 4321)
        self.assertEqual(worth_of(book, ("ac", "bd")), 4321)
        self.assertEqual(worth_of(book, ("ab#cd",)), 21)
        self.assertEqual(worth_of(book, ("z", "z")), 50000)
        self.assertIs(type(worth_of(book, SQUARE)), int)
        book.drop("cd")
        book.put("cd")
        self.assertEqual(worth_of(book, SQUARE), 4301)

    def test_great_worths(self):
        book = Book()
        for word in ("ab", "cd", "ac", "bd"):
            book.put(word, GREATEST)
        self.assertEqual(worth_of(book, SQUARE), 4 * GREATEST)


class Putting(unittest.TestCase):
    def test_across_and_down(self):
        sheet = ("...", ".#.", "...")
        across, below, left, right = [row[2] for row in rows_of(sheet)]
        self.assertEqual(put_word(sheet, across, "abc"), ("abc", ".#.", "..."))
        self.assertEqual(put_word(sheet, below, "abc"), ("...", ".#.", "abc"))
        self.assertEqual(put_word(sheet, left, "abc"), ("a..", "b#.", "c.."))
        self.assertEqual(put_word(sheet, right, "abc"), ("..a", ".#b", "..c"))

    def test_all_else_is_as_before(self):
        sheet = ("x.y", ".#.", "z.w")
        self.assertEqual(put_word(sheet, ((0, 0), (0, 1), (0, 2)), "xay"), ("xay", ".#.", "z.w"))
        self.assertEqual(put_word(sheet, ((0, 2), (1, 2), (2, 2)), "yaw"), ("x.y", ".#a", "z.w"))

    def test_the_sheet_handed_in_stays(self):
        sheet = ("..", "..")
        after = put_word(sheet, ((0, 0), (0, 1)), "ab")
        self.assertEqual(sheet, ("..", ".."))
        self.assertIs(type(after), tuple)
        self.assertEqual([type(line) for line in after], [str, str])

    def test_a_word_that_stands_there_already(self):
        self.assertEqual(put_word(SQUARE, ((0, 0), (1, 0)), "ac"), SQUARE)

    def test_a_word_that_fits_is_the_rows_pattern_then(self):
        sheet = ("a........",) + ("." * 9,) * 8
        for row in rows_of(sheet):
            word = pattern(sheet, row[2]).replace(".", "x")
            after = put_word(sheet, row[2], word)
            self.assertEqual(pattern(after, row[2]), word)
            changed = [
                (line, column) for line in range(9) for column in range(9) if after[line][column] != sheet[line][column]
            ]
            self.assertEqual(changed, sorted(cell for cell in row[2] if sheet[cell[0]][cell[1]] == "."))


class Left(unittest.TestCase):
    def setUp(self):
        self.book = book_of("cd", "ab", "bd", "ac", "ad", "abc", "aaa")

    def test_words_that_fit_sorted(self):
        sheet = ("a.", "..")
        self.assertEqual(words_left(self.book, sheet, 0), ["ab", "ac", "ad"])
        self.assertEqual(words_left(self.book, sheet, 1), ["ab", "ac", "ad", "bd", "cd"])
        self.assertEqual(words_left(self.book, sheet, 2), ["ab", "ac", "ad"])
        self.assertEqual(words_left(self.book, sheet, 3), ["ab", "ac", "ad", "bd", "cd"])

    def test_but_those_in_other_rows_that_are_full(self):
        sheet = ("ab", "..")
        self.assertEqual(words_left(self.book, sheet, 1), ["ac", "ad", "bd", "cd"])
        self.assertEqual(words_left(self.book, sheet, 2), ["ac", "ad"])
        self.assertEqual(words_left(self.book, sheet, 3), ["bd"])
        self.assertEqual(words_left(self.book, ("a.", "c."), 0), ["ab", "ad"])

    def test_a_full_row_whose_word_is_in_the_book(self):
        self.assertEqual(words_left(self.book, ("ab", ".."), 0), ["ab"])
        for place, word in enumerate(("ab", "cd", "ac", "bd")):
            self.assertEqual(words_left(self.book, SQUARE, place), [word])

    def test_a_full_row_whose_word_is_not_in_the_book(self):
        self.assertEqual(words_left(self.book, ("zz", ".."), 0), [])
        self.book.drop("ab")
        self.assertEqual(words_left(self.book, ("ab", ".."), 0), [])

    def test_a_full_row_whose_word_stands_in_another_full_row(self):
        # Across and down from the first cell.
        self.assertEqual(words_left(self.book, ("ab", "b."), 0), [])
        self.assertEqual(words_left(self.book, ("ab", "b."), 2), [])
        self.assertEqual(words_left(self.book, ("ab#ab",), 0), [])
        self.assertEqual(words_left(self.book, ("ab#ab",), 1), [])
        self.assertEqual(words_left(self.book, ("ab#cd#ab",), 1), ["cd"])
        self.assertEqual(words_left(self.book, ("ab", "b#"), 0), [])
        self.assertEqual(words_left(self.book, ("ab", "b#"), 1), [])

    def test_a_row_that_is_not_full_takes_no_word_away(self):
        # "ab" stands in the longer row, which is not full; "aaa" is the one word for it.
        self.assertEqual(words_left(self.book, ("ab.#..",), 1), ["ab", "ac", "ad", "bd", "cd"])
        self.assertEqual(words_left(self.book, ("a.#..",), 1), ["ab", "ac", "ad", "bd", "cd"])
        self.assertEqual(words_left(self.book, ("aa.#...",), 1), ["aaa", "abc"])

    def test_a_word_within_a_longer_full_row_is_left(self):
        self.assertEqual(words_left(self.book, ("abc#..",), 1), ["ab", "ac", "ad", "bd", "cd"])

    def test_a_full_row_with_no_word_of_the_book_takes_none_away(self):
        self.assertEqual(words_left(self.book, ("zz#..",), 1), ["ab", "ac", "ad", "bd", "cd"])

    def test_no_words_of_this_length(self):
        self.assertEqual(words_left(self.book, ("....",), 0), [])
        self.assertEqual(words_left(Book(), ("..",), 0), [])

    def test_a_told_list_is_the_askers_own(self):
        sheet = ("a.", "..")
        told = words_left(self.book, sheet, 0)
        self.assertIs(type(told), list)
        kept = words_left(self.book, sheet, 0)
        told.clear()
        self.assertEqual(words_left(self.book, sheet, 0), ["ab", "ac", "ad"])
        self.book.drop("ab")
        self.assertEqual(kept, ["ab", "ac", "ad"])
        self.assertEqual(words_left(self.book, sheet, 0), ["ac", "ad"])
        self.assertEqual(self.book.words(), ["aaa", "abc", "ac", "ad", "bd", "cd"])

    def test_every_small_sheet(self):
        for words in (("aa", "ab", "ba", "bb"), ("ab", "ba", "aba", "abb", "bab", "aaaa")):
            book = book_of(*words)
            for lines, columns in ((1, 2), (1, 5), (2, 2), (2, 3)):
                for sheet in small_sheets(lines, columns, "#.ab"):
                    for place in range(len(rows_of(sheet))):
                        self.assertEqual(words_left(book, sheet, place), told_left(words, sheet, place), sheet)


if __name__ == "__main__":
    unittest.main()
