"""The desk: points 2 and 28."""

import unittest

from crosswright.desk import Desk
from crosswright.errors import (
    CrossError, NoDeed, NoFloor, NoLine, NoMatch, NoName, NoSheet, NoStep, NotFilled, NotThere, NoWord, NoWorking,
    Twice,
)

WORDS = ("word ab 1", "word cd 2", "word ac 4", "word bd 8")
SHEETS = (
    "sheet empty ../..", "sheet square ab/cd", "sheet other ac/bd", "sheet half .b/..", "sheet bad ab/ce",
    "sheet shut ##/##", "sheet odd ab/c#", "sheet line ab", "sheet cell a",
)
NOT_NAMES = ("abcdefghi", "A", "Ab", "aB", "a1", "1", "a.", "-", "../..", "empty/", "EMPTY", "#", "a,b", "~", "..")
NOT_SHEETS = (("/", 0), ("ab/", 1), ("/ab", 0), ("ab//cd", 1), ("ab/c", 1), ("aB/cd", 0), ("ab/c1", 1), ("ab/cd/", 2),
              ("abcdefghij", 0), ("a/" * 9 + "a", 9), ("ab/" * 9 + "abc", 9), ("x" * 10 + "/a", 0), ("ab|cd", 0))
NOT_WORDS = ("a", "abcdefghij", "A", "aB", "a1", "12", "a.", "..", "-", "ab/cd", "ab,cd")
NOT_WORTHS = ("00", "01", "-1", "+1", "1.0", "x", "1x", "1" + "0" * 60, "1_0", "0x1", "~", "-0", "007")


def desk_of(*rows):
    desk = Desk()
    for row in rows:
        if desk.say(row) != "ok":
            raise AssertionError(row)
    return desk


def told_of(desk):
    """All that a desk keeps, by its answers."""
    names = [row.split(" ")[1] for row in SHEETS] + ["a", "new"]
    told = []
    for name in names:
        try:
            told.append((name, desk.say("show " + name), desk.say("rows " + name)))
        except NoName:
            told.append((name, None))
    words = [desk.say(f"work {word} 1") for word in ("ab", "cd", "ac", "bd", "zz")]
    # The worth of all four words together, where they are there.
    return told, words, desk.say("best empty")


class Answers(unittest.TestCase):
    def setUp(self):
        self.desk = desk_of(*WORDS, *SHEETS)

    def says(self, row, answer):
        told = self.desk.say(row)
        self.assertIs(type(told), str)
        self.assertEqual(told, answer)

    def test_word(self):
        self.says("work zz 1", "0")
        self.says("word zz 0", "ok")
        self.says("work zz 1", "1")
        self.says("word abcdefghi " + "9" * 60, "ok")
        self.says("make abcdefghi", "abcdefghi")

    def test_drop(self):
        self.says("make ab", "ab")
        self.says("drop ab", "ok")
        self.says("work ab 1", "0")
        self.says("word ab 7", "ok")
        self.says("best square", "21")

    def test_sheet_and_show(self):
        for name in ("a", "z", "abcdefgh", "word", "sheet", "none", "ok"):
            for lines in ("ab/cd", "..", ".", "#", "ab#/..#/###", "/".join(["." * 9] * 9), "a"):
                self.says(f"sheet {name} {lines}", "ok")
                self.says(f"show {name}", lines)

    def test_a_sheet_told_anew_by_a_name_that_stands(self):
        self.says("sheet empty abc/def", "ok")
        self.says("show empty", "abc/def")
        self.says("show square", "ab/cd")
        self.says("sheet empty ../..", "ok")
        self.says("count empty", "more")

    def test_rows(self):
        self.says("rows empty", "1across:.. 3across:.. 1down:.. 2down:..")
        self.says("rows square", "1across:ab 3across:cd 1down:ac 2down:bd")
        self.says("rows half", "1across:.b 3across:.. 1down:.. 2down:b.")
        # Floors that are not let by.
        self.says("rows odd", "1across:ab 1down:ac")
        self.says("rows line", "1across:ab")
        self.says("sheet a ab.#c/###.d", "ok")
        self.says("rows a", "1across:ab. 3across:.d 2down:cd")

    def test_rows_of_a_sheet_without_rows(self):
        self.says("rows shut", "")
        self.says("rows cell", "")

    def test_rows_with_numbers_of_two_figures(self):
        self.says("sheet a " + "/".join(["abcdefghi"] * 3), "ok")
        told = self.desk.say("rows a").split(" ")
        self.assertEqual(len(told), 12)
        self.assertEqual(told[1], "10across:abcdefghi")
        self.assertEqual(told[-1], "9down:iii")

    def test_fill(self):
        self.assertIn(self.desk.say("fill empty"), ("ab/cd", "ac/bd"))
        self.says("fill half", "ab/cd")
        self.says("fill square", "ab/cd")
        self.says("fill bad", "none")
        self.says("fill shut", "##/##")
        self.says("drop ab", "ok")
        self.says("fill empty", "none")

    def test_count(self):
        self.says("count empty", "more")
        self.says("count half", "one")
        self.says("count square", "one")
        self.says("count bad", "none")
        self.says("count shut", "one")
        self.says("drop ab", "ok")
        self.says("count empty", "none")
        self.says("count square", "none")

    def test_more_than_two_are_more(self):
        for first in "xyz":
            for second in "xyz":
                self.says(f"word {first}{second} 0", "ok")
        self.says("count empty", "more")

    def test_least(self):
        self.assertIn(self.desk.say("least square"), (".b/..", "../c."))
        self.assertIn(self.desk.say("least other"), (".c/..", "../b."))
        self.says("least shut", "##/##")
        self.says("word abc 0", "ok")
        self.says("word def 0", "ok")
        for word in ("ad", "be", "cf"):
            self.says(f"word {word} 0", "ok")
        self.says("sheet a abc/def", "ok")
        self.says("least a", ".../...")

    def test_best(self):
        self.says("best empty", "15")
        self.says("best half", "15")
        self.says("best square", "15")
        self.says("best bad", "none")
        self.says("best shut", "0")
        self.says("drop cd", "ok")
        self.says("best empty", "none")
        self.says("word cd " + "9" * 60, "ok")
        self.says("best empty", "1" + "0" * 58 + "12")

    def test_best_of_no_worth(self):
        desk = desk_of("word ab 0", "word cd 0", "word ac 0", "word bd 0", "sheet a ../..")
        self.assertEqual(desk.say("best a"), "0")

    def test_mark(self):
        for lines, answer in (
            ("ab/cd", "ab/cd"), ("../..", "../.."), ("ax/.d", "aX/.d"), ("zz/zz", "ZZ/ZZ"), (".b/c.", ".b/c."),
            ("ba/dc", "BA/DC"),
        ):
            self.says("sheet a " + lines, "ok")
            self.says("mark square a", answer)
        self.says("mark square square", "ab/cd")
        self.says("mark square other", "aC/Bd")
        self.says("mark shut shut", "##/##")

    def test_mark_of_a_floor_that_is_not_let_by(self):
        self.says("sheet a ax/.#", "ok")
        self.says("mark odd a", "aX/.#")
        self.says("sheet a zb", "ok")
        self.says("mark line a", "Zb")
        self.says("sheet a .", "ok")
        self.says("mark cell a", ".")
        self.says("sheet a b", "ok")
        self.says("mark cell a", "B")

    def test_make(self):
        self.says("make ab", "ab")
        self.says("make back(ab)", "ba")
        self.says("make join(ab,cd)", "abcd")
        self.says("make mix(ab,ba)", "ba")
        self.says("make within(join(ab,cd),1,3)", "bc")
        self.says("make less(ab,0)", "b")

    def test_work(self):
        self.says("work ab 0", "0")
        self.says("work ab 1", "1")
        self.says("work ba 1", "0")
        self.says("work ba 2", "2")
        self.says("work abcd 2", "0")
        self.says("work abcd 3", "1")
        self.says("work zzzzzzzzz 5", "0")
        self.says("work q 5", "0")
        self.says("word back 1", "ok")
        self.says("make back(back)", "kcab")

    def test_two_desks_know_nothing_of_each_other(self):
        other = Desk()
        self.assertEqual(other.say("work ab 1"), "0")
        with self.assertRaises(NoName):
            other.say("show square")
        self.assertEqual(other.say("word ab 5"), "ok")
        self.assertEqual(other.say("sheet square .../..."), "ok")
        self.says("show square", "ab/cd")
        self.says("best square", "15")
        self.says("drop ab", "ok")
        self.assertEqual(other.say("make ab"), "ab")

    def test_asking_changes_nothing(self):
        before = told_of(self.desk)
        for row in ("show empty", "rows empty", "fill empty", "count empty", "least square", "best empty",
                    "mark square other", "make back(ab)", "work ab 3"):
            answer = self.desk.say(row)
            self.assertEqual(self.desk.say(row), answer)
        self.assertEqual(told_of(self.desk), before)

    def test_argument_by_its_name(self):
        self.assertEqual(self.desk.say(row="show square"), "ab/cd")


class Refusals(unittest.TestCase):
    def setUp(self):
        self.desk = desk_of(*WORDS, *SHEETS)

    def refused(self, row, kind, **fields):
        before = told_of(self.desk)
        with self.assertRaises(CrossError) as caught:
            self.desk.say(row)
        self.assertIs(type(caught.exception), kind, row)
        self.assertEqual(vars(caught.exception), fields)
        self.assertEqual(told_of(self.desk), before)

    def test_blanks_too_many(self):
        for row in (
            "word zz 1", "drop ab", "sheet new ../..", "show empty", "rows empty", "fill empty", "count empty",
            "least square", "best empty", "mark square other", "make ab", "work ab 3",
        ):
            self.refused(" " + row, NoDeed)
            self.refused(row + " ", NoDeed)
            for at, sign in enumerate(row):
                if sign == " ":
                    self.refused(row[:at] + " " + row[at:], NoDeed)
                    self.refused(row[:at] + row[at + 1:], NoDeed)

    def test_a_word_too_few_or_too_many(self):
        for row in (
            "word", "word zz", "word zz 1 1", "drop", "drop ab cd", "sheet", "sheet new", "sheet new .. ..", "show",
            "show empty empty", "rows", "rows empty empty", "fill", "fill empty 1", "count", "count empty 2", "least",
            "least square square", "best", "best empty 1", "mark", "mark square", "mark square other other", "make",
            "make ab ab", "make back(ab, cd)", "make join(ab, cd)", "work", "work ab", "work ab 3 3",
        ):
            self.refused(row, NoDeed)

    def test_a_word_without_signs(self):
        for row in (
            "word  1", "word zz ", "drop ", "sheet  ..", "sheet new ", "show ", "rows ", "fill ", "count ", "least ",
            "best ", "mark  square", "mark square ", "make ", "work  3", "work ab ", " ab 1", " empty",
        ):
            self.refused(row, NoDeed)

    def test_rows_that_are_none(self):
        for row in ("", " ", "  ", "ok", "Word zz 1", "WORD zz 1", "words zz 1", "put zz 1", "say ab", "help", "none",
                    "empty", "show/empty", "show.empty empty", "#", "~ empty", "list empty", "quit"):
            self.refused(row, NoDeed)

    def test_what_is_no_text(self):
        for row in (None, True, 0, 7, [], ["show", "empty"], ("show", "empty"), {}, b"show empty", object()):
            self.refused(row, NoDeed)

    def test_answer_and_steps_that_are_none(self):
        for steps in ("6", "7", "9", "10", "00", "01", "05", "-1", "+1", "x", "1.", "5.0", "~", "012345", "12"):
            self.refused(f"work ab {steps}", NoDeed)
        for answer in ("abcdefghij", "A", "aB", "a1", "1", "a.", ".", "ab/cd", "back(ab)"):
            self.refused(f"work {answer} 3", NoDeed)
        self.refused("work 3 ab", NoDeed)

    def test_names_that_are_none(self):
        for name in NOT_NAMES:
            for deed in ("show", "rows", "fill", "count", "least", "best"):
                self.refused(f"{deed} {name}", NoName, name=name)
            self.refused(f"sheet {name} ../..", NoName, name=name)
            self.refused(f"mark {name} square", NoName, name=name)
            self.refused(f"mark square {name}", NoName, name=name)

    def test_names_by_which_no_sheet_stands(self):
        for name in ("a", "new", "squar", "squares", "abcdefgh", "ab"):
            for deed in ("show", "rows", "fill", "count", "least", "best"):
                self.refused(f"{deed} {name}", NoName, name=name)
            self.refused(f"mark {name} square", NoName, name=name)
            self.refused(f"mark square {name}", NoName, name=name)

    def test_of_two_names_the_left_one(self):
        self.refused("mark new a", NoName, name="new")
        self.refused("mark A B", NoName, name="A")
        self.refused("mark new B", NoName, name="new")
        self.refused("mark B new", NoName, name="B")
        # Ahead of NotFilled and of NoMatch.
        self.refused("mark bad new", NoName, name="new")
        self.refused("mark empty A", NoName, name="A")

    def test_sheets_that_are_none(self):
        for lines, line in NOT_SHEETS:
            self.refused(f"sheet new {lines}", NoSheet, line=line)
            # The sheet that stands by the name stays.
            self.refused(f"sheet empty {lines}", NoSheet, line=line)
            self.refused(f"sheet A {lines}", NoName, name="A")

    def test_words_that_are_none(self):
        for word in NOT_WORDS:
            self.refused(f"word {word} 1", NoWord, word=word)
            self.refused(f"drop {word}", NoWord, word=word)
            self.refused(f"word {word} 01", NoWord, word=word)

    def test_worths_that_are_none(self):
        for worth in NOT_WORTHS:
            self.refused(f"word zz {worth}", NoLine, line=0)
            # Ahead of Twice.
            self.refused(f"word ab {worth}", NoLine, line=0)

    def test_twice_and_not_there(self):
        self.refused("word ab 1", Twice, word="ab")
        self.refused("word ab 99", Twice, word="ab")
        self.refused("drop zz", NotThere, word="zz")
        self.assertEqual(self.desk.say("best square"), "15")
        self.assertEqual(self.desk.say("drop ab"), "ok")
        self.refused("drop ab", NotThere, word="ab")

    def test_workings_that_are_none(self):
        for text in ("A", "back(", "back(ab", "back()", "back(ab))", "join(ab)", "less(ab,01)", "7", "abcdefghij",
                     "less(ab,cd)", "word(ab)", "mix(ab,BA)", "ab,cd", "ab/cd"):
            self.refused(f"make {text}", NoWorking)
        # NoWorking ahead of NoStep.
        self.refused("make join(zz,01)", NoWorking)

    def test_steps_that_can_not_be_made(self):
        self.refused("make back", NoStep, step=("word", "back"))
        self.refused("make back(zz)", NoStep, step=("word", "zz"))
        self.refused("make mix(ab,ab)", NoStep, step=("mix", ("word", "ab"), "ab"))
        self.refused("make join(ab,less(cd,2))", NoStep, step=("less", ("word", "cd"), 2))
        self.refused("make within(ab,0,2)", NoStep, step=("within", ("word", "ab"), 0, 2))

    def test_floors_that_are_not_let_by(self):
        for deed in ("fill", "count", "least", "best"):
            for name in ("odd", "line", "cell"):
                self.refused(f"{deed} {name}", NoFloor, cell=(0, 0))
        self.desk.say("sheet a #./..")
        for deed in ("fill", "count", "least", "best"):
            with self.assertRaises(NoFloor) as caught:
                self.desk.say(f"{deed} a")
            self.assertEqual(caught.exception.cell, (1, 1))

    def test_what_is_no_filling(self):
        for name in ("empty", "half", "bad"):
            self.refused(f"least {name}", NotFilled)
            self.refused(f"mark {name} square", NotFilled)
            # Ahead of NoMatch.
            self.refused(f"mark {name} line", NotFilled)
            self.refused(f"mark {name} {name}", NotFilled)

    def test_a_filling_no_longer(self):
        self.assertEqual(self.desk.say("mark square other"), "aC/Bd")
        self.desk.say("drop ab")
        self.refused("mark square other", NotFilled)
        self.refused("least square", NotFilled)

    def test_sheets_that_do_not_match(self):
        for name in ("shut", "odd", "line", "cell"):
            self.refused(f"mark square {name}", NoMatch)
            self.refused(f"mark {name} square", NoMatch)


class Rows(unittest.TestCase):
    """Rows one behind the other, some of them refused."""

    def test_a_day_at_the_desk(self):
        desk = Desk()
        for row, answer in (
            ("sheet day ../..", "ok"), ("count day", "none"), ("fill day", "none"), ("best day", "none"),
            ("word ab 10", "ok"), ("word ac 0", "ok"), ("word cd 3", "ok"), ("word bd 4", "ok"), ("word bd 4", Twice),
            ("count day", "more"), ("best day", "17"), ("sheet day ab/..", "ok"), ("count day", "one"),
            ("fill day", "ab/cd"), ("least day", NotFilled), ("mark day day", NotFilled), ("sheet key ab/cd", "ok"),
            ("mark key day", "ab/.."), ("sheet day ad/.d", "ok"), ("mark key day", "aD/.d"), ("count day", "none"),
            ("drop cd", "ok"), ("mark key day", NotFilled), ("drop cd", NotThere), ("word cd 3", "ok"),
            ("make join(ab,cd)", "abcd"), ("work abcd 3", "1"), ("show key", "ab/cd"),
        ):
            if isinstance(answer, str):
                self.assertEqual(desk.say(row), answer, row)
            else:
                with self.assertRaises(answer, msg=row):
                    desk.say(row)

    def test_three_hundred_sheets_and_words(self):
        letters = "abcdefghijklmnopqr"
        names = [a + b for a in letters for b in letters][:300]
        desk = Desk()
        for number, name in enumerate(names):
            self.assertEqual(desk.say(f"sheet {name} {name}/{name[::-1]}"), "ok")
            self.assertEqual(desk.say(f"word {name} {number}"), "ok")
        for number, name in enumerate(names):
            self.assertEqual(desk.say(f"show {name}"), f"{name}/{name[::-1]}")
            self.assertEqual(desk.say(f"make {name}"), name)


if __name__ == "__main__":
    unittest.main()
