"""Sheets: points 2, 4, 5, 6 and 7."""

import unittest

from crosswright.errors import CrossError, NoSheet
from crosswright.sheets import (
    agrees, free_cells, one_floor, open_cells, read_sheet, show_sheet, turned, with_sign,
)

LETTERS = "abcdefghijklmnopqrstuvwxyz"
SHEET = ("ab#", ".#.", "#.z")


class Reading(unittest.TestCase):
    def refused(self, text, line):
        with self.assertRaises(NoSheet) as caught:
            read_sheet(text)
        self.assertIs(type(caught.exception.line), int)
        self.assertEqual(caught.exception.line, line)

    def test_a_text_is_read_as_a_tuple_of_lines(self):
        sheet = read_sheet("ab#\n.#.\n#.z")
        self.assertIs(type(sheet), tuple)
        self.assertEqual(sheet, SHEET)
        self.assertTrue(all(type(line) is str for line in sheet))

    def test_one_line_of_each_sign(self):
        for sign in "#." + LETTERS:
            with self.subTest(sign=sign):
                self.assertEqual(read_sheet(sign), (sign,))
                self.assertEqual(show_sheet((sign,)), sign)

    def test_every_size_is_read_and_shown_the_same(self):
        signs = "#." + LETTERS
        for lines in range(1, 10):
            for columns in range(1, 10):
                sheet = tuple(
                    "".join(signs[(line * 11 + column * 5) % 28] for column in range(columns))
                    for line in range(lines)
                )
                text = "\n".join(sheet)
                with self.subTest(text=text):
                    self.assertEqual(read_sheet(text), sheet)
                    self.assertEqual(show_sheet(sheet), text)
                    self.assertEqual(show_sheet(read_sheet(text)), text)

    def test_lines_without_signs(self):
        self.refused("", 0)
        self.refused("\n", 0)
        self.refused("\nab", 0)
        self.refused("ab\n", 1)
        self.refused("ab\n\nab", 1)
        self.refused("ab\nab\n", 2)
        self.refused("\n".join(["a"] * 8) + "\n", 8)

    def test_lines_with_too_many_signs(self):
        self.refused("." * 10, 0)
        self.refused("." * 300, 0)
        self.refused("." * 9 + "\n" + "." * 10, 1)
        self.refused("\n".join(["." * 10] * 9), 0)

    def test_lines_with_a_strange_sign(self):
        for sign in "AZ 059-_,/\"!$&*+:;<=>?@[]^`{|}~":
            with self.subTest(sign=sign):
                self.refused(sign, 0)
                self.refused("a" + sign, 0)
                self.refused(sign + "a", 0)
                self.refused("ab\n#" + sign + "\nab", 1)
        self.refused("ab\nab\nab \nab", 2)
        self.refused("ab\r\nab", 0)
        self.refused("ab\n\ta", 1)
        self.refused("ab\n\u00e4b", 1)

    def test_other_row_ends_are_strange_signs(self):
        for end in "\r\v\f\x1c\x1d\x1e\x85\u2028\u2029":
            with self.subTest(end=end):
                self.refused("a" + end + "b", 0)

    def test_lines_with_another_number_of_signs(self):
        self.refused("ab\na", 1)
        self.refused("ab\nabc", 1)
        self.refused("ab\nab\nab\nabc\nab", 3)
        self.refused("\n".join(["ab"] * 8 + ["a"]), 8)
        self.refused("a\nab\nab", 1)

    def test_more_than_nine_lines(self):
        for count in (10, 11, 30, 150):
            with self.subTest(count=count):
                self.refused("\n".join(["a"] * count), 9)
        self.refused("\n".join(["."] * 9) + "\n", 9)

    def test_a_fault_behind_nine_lines_is_told_as_nine(self):
        self.refused("\n".join(["ab"] * 9 + ["A"]), 9)
        self.refused("\n".join(["ab"] * 11 + ["A"]), 9)

    def test_a_fault_among_nine_lines_goes_ahead_of_too_many(self):
        self.refused("\n".join(["ab"] * 4 + ["a"] + ["ab"] * 8), 4)
        self.refused("\n".join(["ab"] * 8 + ["aB"] + ["ab"] * 8), 8)
        self.refused("\n".join(["A"] * 12), 0)
        self.refused("\n" * 20, 0)

    def test_the_first_of_several_faults(self):
        self.refused("ab\nabc\nA\n\n" + "." * 10, 1)
        self.refused("ab\nab\nAb\nabc\n", 2)
        self.refused("ab\nab\nab\n\nAB", 3)
        self.refused("." * 10 + "\nab\nA", 0)
        self.refused("A\nab", 0)

    def test_what_is_no_text(self):
        things = (None, True, False, 0, 1, 9, 1.5, b"ab", ["ab"], ("ab",), SHEET, {"ab": 1}, {"ab"}, object(), str)
        for thing in things:
            with self.subTest(thing=thing):
                self.refused(thing, 0)

    def test_the_refusal_is_a_cross_error(self):
        with self.assertRaises(CrossError):
            read_sheet("A")

    def test_a_list_that_is_refused_is_not_changed(self):
        lines = ["ab", "ab"]
        self.refused(lines, 0)
        self.assertEqual(lines, ["ab", "ab"])


class Cells(unittest.TestCase):
    def test_open_cells_come_line_by_line_from_the_left(self):
        self.assertEqual(open_cells(SHEET), [(0, 0), (0, 1), (1, 0), (1, 2), (2, 1), (2, 2)])

    def test_free_cells_come_line_by_line_from_the_left(self):
        self.assertEqual(free_cells(SHEET), [(1, 0), (1, 2), (2, 1)])

    def test_a_sheet_that_is_not_square(self):
        self.assertEqual(open_cells(("a.#.",)), [(0, 0), (0, 1), (0, 3)])
        self.assertEqual(free_cells(("a.#.",)), [(0, 1), (0, 3)])
        self.assertEqual(open_cells((".", "#", "b")), [(0, 0), (2, 0)])
        self.assertEqual(free_cells((".", "#", "b")), [(0, 0)])
        self.assertEqual(free_cells(("..", "a.", ".#")), [(0, 0), (0, 1), (1, 1), (2, 0)])

    def test_none_open_and_none_free(self):
        self.assertEqual(open_cells(("##", "##")), [])
        self.assertEqual(free_cells(("##", "##")), [])
        self.assertEqual(free_cells(("ab", "#d")), [])
        self.assertEqual(open_cells(("#",)), [])

    def test_a_great_sheet(self):
        every = [(line, column) for line in range(9) for column in range(9)]
        self.assertEqual(open_cells(("." * 9,) * 9), every)
        self.assertEqual(free_cells(("." * 9,) * 9), every)
        self.assertEqual(open_cells(("a" * 9,) * 9), every)

    def test_cells_are_tuples_in_a_list(self):
        for ask in (open_cells, free_cells):
            self.assertIs(type(ask(SHEET)), list)
            self.assertTrue(all(type(cell) is tuple for cell in ask(SHEET)))

    def test_a_told_list_is_the_askers_own(self):
        for ask in (open_cells, free_cells):
            first = ask(SHEET)
            kept = list(first)
            second = ask(SHEET)
            self.assertIsNot(first, second)
            first.clear()
            first.append("changed")
            self.assertEqual(second, kept)
            self.assertEqual(ask(SHEET), kept)
            self.assertEqual(SHEET, ("ab#", ".#.", "#.z"))


class WithSign(unittest.TestCase):
    def test_every_cell_and_every_kind_of_sign(self):
        for line in range(3):
            for column in range(3):
                for sign in "#.qa":
                    with self.subTest(cell=(line, column), sign=sign):
                        grid = [list(row) for row in SHEET]
                        grid[line][column] = sign
                        told = with_sign(SHEET, (line, column), sign)
                        self.assertIs(type(told), tuple)
                        self.assertEqual(told, tuple("".join(row) for row in grid))

    def test_the_sheet_handed_in_stays(self):
        sheet = read_sheet("ab\n.#")
        self.assertEqual(with_sign(sheet, (1, 0), "c"), ("ab", "c#"))
        self.assertEqual(sheet, ("ab", ".#"))

    def test_sheets_of_one_line_one_column_and_one_cell(self):
        self.assertEqual(with_sign(("....",), (0, 3), "d"), ("...d",))
        self.assertEqual(with_sign((".", ".", "."), (2, 0), "d"), (".", ".", "d"))
        self.assertEqual(with_sign((".",), (0, 0), "z"), ("z",))

    def test_the_last_cell_of_a_great_sheet(self):
        sheet = ("." * 9,) * 9
        self.assertEqual(with_sign(sheet, (8, 8), "x"), ("." * 9,) * 8 + ("." * 8 + "x",))


class Turned(unittest.TestCase):
    def test_even_and_odd(self):
        self.assertEqual(turned(("ab", "cd")), ("dc", "ba"))
        self.assertEqual(turned(("abc", "def")), ("fed", "cba"))
        self.assertEqual(turned(("ab", "cd", "ef")), ("fe", "dc", "ba"))
        self.assertEqual(turned(SHEET), ("z.#", ".#.", "#ba"))
        self.assertEqual(turned(("a.#",)), ("#.a",))
        self.assertEqual(turned(("a", ".", "#")), ("#", ".", "a"))
        self.assertEqual(turned(("a",)), ("a",))

    def test_each_cell_lies_where_it_should_and_twice_is_as_before(self):
        for lines in range(1, 10):
            for columns in range(1, 10):
                sheet = tuple(
                    "".join(("#." + LETTERS)[(line * 9 + column) % 28] for column in range(columns))
                    for line in range(lines)
                )
                about = turned(sheet)
                with self.subTest(sheet=sheet):
                    self.assertIs(type(about), tuple)
                    self.assertEqual([len(line) for line in about], [columns] * lines)
                    for line in range(lines):
                        for column in range(columns):
                            self.assertEqual(
                                about[line][column], sheet[lines - 1 - line][columns - 1 - column]
                            )
                    self.assertEqual(turned(about), sheet)


class Floors(unittest.TestCase):
    def either_way(self, sheet, other, answer):
        self.assertIs(one_floor(sheet, other), answer)
        self.assertIs(one_floor(other, sheet), answer)

    def test_shut_cells_alike(self):
        self.either_way(SHEET, SHEET, True)
        self.either_way(SHEET, ("..#", "q#r", "#ab"), True)
        self.either_way(("ab", "cd"), ("..", "zz"), True)
        self.either_way(("##", "##"), ("##", "##"), True)
        self.either_way(("a",), (".",), True)

    def test_shut_cells_not_alike(self):
        self.either_way(("a#", ".."), ("#a", ".."), False)
        self.either_way(("a#", ".."), ("ab", ".."), False)
        self.either_way(("..", ".#"), ("..", ".."), False)
        self.either_way(("#",), (".",), False)
        self.either_way(("#",), ("a",), False)

    def test_not_as_great(self):
        self.either_way(("ab",), ("ab", "cd"), False)
        self.either_way(("ab",), ("abc",), False)
        self.either_way(("ab", "cd"), ("abc", "def"), False)
        self.either_way(("abc", "def"), ("ab", "cd", "ef"), False)
        self.either_way(("abcd",), ("ab", "cd"), False)
        self.either_way(("abcd",), ("a", "b", "c", "d"), False)
        self.either_way(("##",), ("##", "##"), False)
        self.either_way(("##",), ("#", "#"), False)


class Agreeing(unittest.TestCase):
    def asked(self, sheet, other, answer, back):
        self.assertIs(agrees(sheet, other), answer)
        self.assertIs(agrees(other, sheet), back)

    def test_the_same_letters(self):
        self.asked(SHEET, SHEET, True, True)
        self.asked(("ab", "#."), ("ab", "#."), True, True)
        self.asked(("..", "#."), ("..", "#."), True, True)
        self.asked(("##",), ("##",), True, True)

    def test_letters_that_stand_in_one_alone(self):
        self.asked(("ab", "#c"), ("a.", "#."), True, False)
        self.asked(("ab", "#c"), ("..", "#."), True, False)
        self.asked(("ab", "#c"), ("..", "#c"), True, False)
        self.asked(("a.", "#c"), (".b", "#c"), False, False)

    def test_other_letters(self):
        self.asked(("ab", "#c"), ("ab", "#d"), False, False)
        self.asked(("ab", "#c"), ("x.", "#."), False, False)
        self.asked(("ab",), ("ba",), False, False)
        self.asked(("z",), ("a",), False, False)

    def test_another_floor(self):
        self.asked(("ab", "#c"), ("ab", ".c"), False, False)
        self.asked(("ab", "#c"), ("a.", ".#"), False, False)
        self.asked(("a#",), ("#a",), False, False)
        self.asked(("#",), (".",), False, False)
        self.asked(("#",), ("a",), False, False)

    def test_not_as_great(self):
        self.asked(("ab",), ("ab", ".."), False, False)
        self.asked(("ab",), ("ab.",), False, False)
        self.asked(("abc", "def"), ("ab", "de"), False, False)
        self.asked(("...",), ("..",), False, False)
        self.asked(("..", ".."), ("....",), False, False)

    def test_the_sheets_handed_in_stay(self):
        sheet = ("ab", "#c")
        other = ("a.", "#.")
        agrees(sheet, other)
        one_floor(sheet, other)
        turned(sheet)
        self.assertEqual((sheet, other), (("ab", "#c"), ("a.", "#.")))


if __name__ == "__main__":
    unittest.main()
