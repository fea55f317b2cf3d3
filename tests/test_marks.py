"""Marks: points 2 and 23."""

import itertools
import random
import unittest

from crosswright.errors import CrossError, NoMatch
from crosswright.marks import marks, shown
from reckoning import cells_of, filled_at_random

FILLED = ("abc", "def", "ghi")


def told_marks(filling, sheet):
    """The three lists, by another road than the program's."""
    cells = [(line, column) for line in range(len(sheet)) for column in range(len(sheet[0]))]
    wrong = [(a, b) for a, b in cells if sheet[a][b] not in "#." and sheet[a][b] != filling[a][b]]
    free = [(a, b) for a, b in cells if sheet[a][b] == "."]
    right = [place for place, row in enumerate(cells_of(sheet)) if not set(row) & set(wrong + free)]
    return (wrong, free, right)


def told_shown(filling, sheet):
    """The text with wrong letters as great ones, by another road than the program's."""
    return "\n".join(
        "".join(sign if sign in "#." or sign == letter else sign.upper() for sign, letter in zip(line, other))
        for line, other in zip(sheet, filling)
    )


class Marks(unittest.TestCase):
    def hold(self, filling, sheet, wrong=None, free=None, right=None, text=None):
        answer = marks(filling, sheet)
        self.assertIs(type(answer), tuple)
        self.assertEqual([type(part) for part in answer], [list, list, list])
        self.assertEqual(answer, told_marks(filling, sheet))
        self.assertEqual(shown(filling, sheet), told_shown(filling, sheet))
        if text is not None:
            self.assertEqual(answer, (wrong, free, right))
            self.assertEqual(shown(filling, sheet), text)

    def test_all_right(self):
        self.hold(FILLED, FILLED, [], [], [0, 1, 2, 3, 4, 5], "abc\ndef\nghi")

    def test_wrong_letters(self):
        self.hold(FILLED, ("abz", "def", "ghi"), [(0, 2)], [], [1, 2, 3, 4], "abZ\ndef\nghi")
        self.hold(FILLED, ("abc", "xef", "gyi"), [(1, 0), (2, 1)], [], [0, 5], "abc\nXef\ngYi")
        self.hold(FILLED, ("bca", "efd", "hig"), sorted(itertools.product(range(3), range(3))), [], [], "BCA\nEFD\nHIG")

    def test_free_cells(self):
        self.hold(FILLED, ("...", "...", "..."), [], sorted(itertools.product(range(3), range(3))), [], "...\n...\n...")
        self.hold(FILLED, ("abc", ".ef", "ghi"), [], [(1, 0)], [0, 2, 4, 5], "abc\n.ef\nghi")

    def test_both_in_one_row(self):
        self.hold(FILLED, ("z.c", "def", "ghi"), [(0, 0)], [(0, 1)], [1, 2, 5], "Z.c\ndef\nghi")
        self.hold(FILLED, ("..z", "d.f", "ghz"), [(0, 2), (2, 2)], [(0, 0), (0, 1), (1, 1)], [], "..Z\nd.f\nghZ")

    def test_shut_cells(self):
        filling = ("ab#", "cde", "#fg")
        self.hold(filling, filling, [], [], [0, 1, 2, 3, 4, 5], "ab#\ncde\n#fg")
        self.hold(filling, ("ax#", "cd.", "#fg"), [(0, 1)], [(1, 2)], [2, 3], "aX#\ncd.\n#fg")

    def test_without_open_cells(self):
        for sheet in (("#",), ("##", "##"), ("#" * 9,) * 9):
            self.hold(sheet, sheet, [], [], [], "\n".join(sheet))

    def test_without_rows(self):
        self.hold(("a",), ("a",), [], [], [], "a")
        self.hold(("a",), ("b",), [(0, 0)], [], [], "B")
        self.hold(("a",), (".",), [], [(0, 0)], [], ".")
        self.hold(("a#", "#b"), ("b#", "#."), [(0, 0)], [(1, 1)], [], "B#\n#.")

    def test_cells_in_one_row_or_in_none(self):
        filling = ("ab#c", "###d")
        self.hold(filling, filling, [], [], [0, 1], "ab#c\n###d")
        self.hold(filling, ("az#c", "###d"), [(0, 1)], [], [1], "aZ#c\n###d")
        self.hold(filling, ("ab#z", "###."), [(0, 3)], [(1, 3)], [0], "ab#Z\n###.")
        self.hold(("ab", "c#"), ("ax", "c#"), [(0, 1)], [], [1], "aX\nc#")
        self.hold(("a#bc",), ("z#bc",), [(0, 0)], [], [0], "Z#bc")

    def test_the_words_need_stand_in_no_book(self):
        self.hold(("zz", "zz"), ("zz", "zq"), [(1, 1)], [], [0, 2], "zz\nzQ")

    def test_every_letter(self):
        for letter, other in zip("abcdefghijklmnopqrstuvwxyz", "bcdefghijklmnopqrstuvwxyza"):
            self.hold((letter,), (letter,), [], [], [], letter)
            self.hold((other,), (letter,), [(0, 0)], [], [], letter.upper())

    def test_every_sheet_of_two_lines(self):
        for signs in itertools.product(".ab#", repeat=4):
            sheet = ("".join(signs[:2]), "".join(signs[2:]))
            for letters in itertools.product("ab", repeat=4):
                grid = ["#" if sign == "#" else letter for sign, letter in zip(signs, letters)]
                self.hold(("".join(grid[:2]), "".join(grid[2:])), sheet)

    def test_many_sheets(self):
        chance = random.Random(41)
        for turn in range(300):
            width = chance.randint(1, 9)
            floor = tuple(
                "".join(chance.choice("....#") for column in range(width)) for line in range(chance.randint(1, 9))
            )
            filling = filled_at_random(chance, floor, "abc")
            sheet = tuple(
                "".join(sign if chance.random() < 0.8 or sign == "#" else chance.choice(".abc") for sign in line)
                for line in filling
            )
            self.hold(filling, sheet)

    def test_arguments_by_their_names(self):
        self.assertEqual(marks(filling=("ab",), sheet=("ac",)), ([(0, 1)], [], []))
        self.assertEqual(shown(filling=("ab",), sheet=("ac",)), "aC")

    def test_the_lists_are_new_ones(self):
        sheet = ("z.c", "def", "ghi")
        answer = marks(FILLED, sheet)
        again = marks(FILLED, sheet)
        for part in again:
            part.clear()
        self.assertEqual(answer, ([(0, 0)], [(0, 1)], [1, 2, 5]))
        self.assertEqual(marks(FILLED, sheet), answer)
        self.assertEqual(sheet, ("z.c", "def", "ghi"))
        self.assertEqual(FILLED, ("abc", "def", "ghi"))


class NoMatches(unittest.TestCase):
    def refused(self, filling, sheet):
        for deed in (marks, shown):
            with self.assertRaises(CrossError) as caught:
                deed(filling, sheet)
            self.assertIs(type(caught.exception), NoMatch)

    def test_a_line_more_or_less(self):
        self.refused(FILLED, ("abc", "def"))
        self.refused(FILLED, FILLED + ("...",))
        self.refused(FILLED, FILLED + ("###",))
        self.refused(("###",), ("###", "###"))

    def test_a_sign_more_or_less_in_each_line(self):
        self.refused(FILLED, ("ab", "de", "gh"))
        self.refused(FILLED, ("abcd", "defg", "ghij"))
        self.refused(FILLED, ("abc#", "def#", "ghi#"))
        self.refused(("##", "##"), ("#", "#"))

    def test_as_many_signs_in_other_lines(self):
        self.refused(("abcd", "efgh"), ("ab", "cd", "ef", "gh"))
        self.refused(("abc",), ("a", "b", "c"))

    def test_shut_cells_that_lie_otherwise(self):
        for cell in itertools.product(range(3), range(3)):
            lines = [list(line) for line in FILLED]
            lines[cell[0]][cell[1]] = "#"
            holed = tuple("".join(line) for line in lines)
            self.refused(FILLED, holed)
            self.refused(holed, FILLED)
            self.refused(holed, ("...", "...", "..."))
        self.refused(("a#",), ("#a",))


if __name__ == "__main__":
    unittest.main()
