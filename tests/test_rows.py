"""Rows and floors: points 2, 8 and 9."""

import itertools
import re
import unittest

from crosswright.errors import CrossError, NoFloor
from crosswright.rows import need_floor, rows_of

GRID = ("a.c", ".#.", "g.i")


def told_by_runs(sheet):
    """The rows of a sheet, found by another road than the program's: runs within whole lines and columns."""
    runs = []
    for line, text in enumerate(sheet):
        for run in re.finditer("[^#]{2,}", text):
            runs.append(("across", tuple((line, at) for at in range(run.start(), run.end()))))
    for column, signs in enumerate(zip(*sheet)):
        for run in re.finditer("[^#]{2,}", "".join(signs)):
            runs.append(("down", tuple((at, column) for at in range(run.start(), run.end()))))
    begins = sorted({cells[0] for way, cells in runs})
    rows = [(begins.index(cells[0]) + 1, way, cells) for way, cells in runs]
    return sorted(rows, key=lambda row: (row[1], row[0]))


def told_fault(sheet):
    """The cell that a floor is refused for, or None, by another road than the program's."""
    shut = {(i, k) for i, line in enumerate(sheet) for k, sign in enumerate(line) if sign == "#"}
    cells = [(i, k) for i in range(len(sheet)) for k in range(len(sheet[0])) if (i, k) not in shut]
    lone = [(i, k) for i, k in cells if (len(sheet) - 1 - i, len(sheet[0]) - 1 - k) in shut]
    rows = told_by_runs(sheet)
    ways = {cell: {way for number, way, run in rows if cell in run} for cell in cells}
    single = [cell for cell in cells if ways[cell] != {"across", "down"}]
    return (lone + single + [None])[0]


def small_floors():
    for lines, columns in ((1, 1), (1, 5), (5, 1), (2, 2), (2, 4), (4, 2), (3, 3), (3, 4), (4, 3)):
        for signs in itertools.product(".#", repeat=lines * columns):
            text = "".join(signs)
            yield tuple(text[at:at + columns] for at in range(0, len(text), columns))


def fault(sheet):
    try:
        answer = need_floor(sheet)
    except NoFloor as error:
        return error.cell
    assert answer is None
    return None


class Rows(unittest.TestCase):
    def test_across_by_number_then_down_by_number(self):
        self.assertEqual(rows_of(GRID), [
            (1, "across", ((0, 0), (0, 1), (0, 2))),
            (3, "across", ((2, 0), (2, 1), (2, 2))),
            (1, "down", ((0, 0), (1, 0), (2, 0))),
            (2, "down", ((0, 2), (1, 2), (2, 2))),
        ])

    def test_a_cell_that_begins_two_rows_has_one_number(self):
        self.assertEqual(rows_of(("ab", "cd")), [
            (1, "across", ((0, 0), (0, 1))),
            (3, "across", ((1, 0), (1, 1))),
            (1, "down", ((0, 0), (1, 0))),
            (2, "down", ((0, 1), (1, 1))),
        ])

    def test_several_rows_in_one_line_and_column(self):
        self.assertEqual(rows_of(("..#..", ".#.#.", "..#..")), [
            (1, "across", ((0, 0), (0, 1))),
            (2, "across", ((0, 3), (0, 4))),
            (4, "across", ((2, 0), (2, 1))),
            (5, "across", ((2, 3), (2, 4))),
            (1, "down", ((0, 0), (1, 0), (2, 0))),
            (3, "down", ((0, 4), (1, 4), (2, 4))),
        ])

    def test_runs_of_a_single_cell_are_no_rows_and_get_no_number(self):
        self.assertEqual(rows_of((".#.", "#.#", ".#.")), [])
        self.assertEqual(rows_of((".",)), [])
        self.assertEqual(rows_of(("a",)), [])
        self.assertEqual(rows_of((".#..",)), [(1, "across", ((0, 2), (0, 3)))])
        self.assertEqual(rows_of((".#", "#.", "#.")), [(1, "down", ((1, 1), (2, 1)))])

    def test_without_open_cells(self):
        self.assertEqual(rows_of(("#",)), [])
        self.assertEqual(rows_of(("###", "###")), [])

    def test_one_line_or_one_column(self):
        self.assertEqual(rows_of(("a.c",)), [(1, "across", ((0, 0), (0, 1), (0, 2)))])
        self.assertEqual(rows_of(("a", ".", "c")), [(1, "down", ((0, 0), (1, 0), (2, 0)))])
        self.assertEqual(rows_of(("..#...#..",)), [
            (1, "across", ((0, 0), (0, 1))),
            (2, "across", ((0, 3), (0, 4), (0, 5))),
            (3, "across", ((0, 7), (0, 8))),
        ])
        self.assertEqual(rows_of(("#", "a", "b", "#", ".", ".")), [
            (1, "down", ((1, 0), (2, 0))),
            (2, "down", ((4, 0), (5, 0))),
        ])

    def test_a_row_does_not_go_round_an_edge(self):
        self.assertEqual(rows_of(("#.", ".#")), [])
        self.assertEqual(rows_of((".#.",)), [])
        self.assertEqual(rows_of((".", "#", ".")), [])

    def test_letters_and_free_cells_are_alike(self):
        self.assertEqual(rows_of(("abc", "d#f", "ghi")), rows_of(("...", ".#.", "...")))
        self.assertEqual(rows_of(GRID), rows_of(("...", ".#.", "...")))

    def test_numbers_of_more_than_one_figure_stand_as_numbers(self):
        rows = rows_of(("." * 9,) * 9)
        self.assertEqual([row[0] for row in rows], [1] + list(range(10, 18)) + list(range(1, 10)))
        self.assertEqual([row[1] for row in rows], ["across"] * 9 + ["down"] * 9)
        self.assertEqual(rows[8][2], tuple((8, column) for column in range(9)))
        self.assertEqual(rows[17][2], tuple((line, 8) for line in range(9)))

    def test_every_small_floor(self):
        for sheet in small_floors():
            self.assertEqual(rows_of(sheet), told_by_runs(sheet), sheet)

    def test_kinds(self):
        rows = rows_of(GRID)
        self.assertIs(type(rows), list)
        for row in rows:
            self.assertIs(type(row), tuple)
            self.assertEqual([type(part) for part in row], [int, str, tuple])
            self.assertTrue(all(type(cell) is tuple for cell in row[2]))

    def test_a_told_list_is_the_askers_own(self):
        for sheet in (GRID, ("###",), ("a.c",), ("a", ".", "c")):
            first = rows_of(sheet)
            kept = list(first)
            second = rows_of(sheet)
            self.assertIsNot(first, second)
            first.clear()
            first.append("changed")
            self.assertEqual(second, kept)
            self.assertEqual(rows_of(sheet), kept)
        self.assertEqual(GRID, ("a.c", ".#.", "g.i"))


class Floor(unittest.TestCase):
    def test_let_by(self):
        for sheet in (
            ("ab", "cd"), ("...", "...", "..."), ("." * 9,) * 9, ("..##", "....", "##.."),
            ("#..", "...", "..#"), ("..#", "...", "#.."), ("..##", "..##", "##..", "##.."),
            ("##..", "##..", "..##", "..##"), ("####", "#ab#", "#cd#", "####"),
        ):
            with self.subTest(sheet=sheet):
                self.assertIsNone(need_floor(sheet))

    def test_without_open_cells_is_let_by(self):
        for sheet in (("#",), ("##",), ("#", "#"), ("###", "###", "###"), ("#" * 9,) * 9):
            with self.subTest(sheet=sheet):
                self.assertIsNone(need_floor(sheet))

    def test_the_first_open_cell_whose_turned_cell_is_shut(self):
        self.assertEqual(fault(("..", ".#")), (0, 0))
        self.assertEqual(fault(("#.", "..")), (1, 1))
        self.assertEqual(fault((".#", "..")), (1, 0))
        self.assertEqual(fault(("...", "...", ".#.")), (0, 1))
        self.assertEqual(fault(("...", "#..", "...")), (1, 2))
        self.assertEqual(fault(("##..", "....", "....", "..#.")), (3, 3))
        self.assertEqual(fault((".#",)), (0, 0))
        self.assertEqual(fault(("#", ".")), (1, 0))

    def test_letters_do_not_make_a_cell_shut(self):
        self.assertEqual(fault(("ab", "c#")), (0, 0))
        self.assertIsNone(fault(("a.", ".d")))
        self.assertIsNone(fault(("ab", "..")))

    def test_the_first_open_cell_that_does_not_stand_in_two_rows(self):
        self.assertEqual(fault((".",)), (0, 0))
        self.assertEqual(fault(("a",)), (0, 0))
        self.assertEqual(fault(("...",)), (0, 0))
        self.assertEqual(fault((".", ".")), (0, 0))
        self.assertEqual(fault(("#.#", "...", "#.#")), (0, 1))
        self.assertEqual(fault(GRID), (0, 1))
        self.assertEqual(fault((".#.", "...", ".#.")), (0, 0))
        self.assertEqual(fault(("###", "#.#", "###")), (1, 1))
        self.assertEqual(fault(("..#..", "..#..", "##.##", "..#..", "..#..")), (2, 2))

    def test_a_cell_in_one_row_alone_either_way(self):
        # Behind cells that stand in two rows: one that has only its row across, one that has only its row down.
        self.assertEqual(fault(("..###..", ".......", "..###..")), (1, 2))
        self.assertEqual(fault(("...", "...", "#.#", "...", "...")), (2, 1))

    def test_turning_goes_ahead_of_rows(self):
        # (0, 0) stands in no two rows, but a later cell is open where its turned cell is shut.
        self.assertEqual(fault((".#.", "#..", ".#.")), (1, 2))
        self.assertEqual(fault(("....", "#.#.", "....")), (1, 1))
        self.assertEqual(fault((".#.#.", "..#..", ".#...")), (2, 3))

    def test_every_small_floor(self):
        for sheet in small_floors():
            self.assertEqual(fault(sheet), told_fault(sheet), sheet)

    def test_the_refusal_and_its_field(self):
        with self.assertRaises(CrossError) as caught:
            need_floor((".",))
        self.assertIs(type(caught.exception), NoFloor)
        self.assertIs(type(caught.exception.cell), tuple)

    def test_the_sheet_handed_in_stays(self):
        sheet = ("a.", ".#")
        fault(sheet)
        self.assertEqual(sheet, ("a.", ".#"))


if __name__ == "__main__":
    unittest.main()
