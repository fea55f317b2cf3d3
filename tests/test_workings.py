"""Workings and their texts: points 2 and 24."""

import random
import unittest

from crosswright.errors import CrossError, NoWorking
from crosswright.workings import read_working, show_working
from reckoning import NAMES, working_at_random

AB = ("word", "ab")
CD = ("word", "cd")


def told_text(working):
    """The text of a working, by another road than the program's."""
    if working[0] == "word":
        return working[1]
    parts = [told_text(part) if isinstance(part, tuple) else str(part) for part in working[1:]]
    return working[0] + "(" + ",".join(parts) + ")"


def parts_in(working):
    return 1 + sum(parts_in(part) for part in working if isinstance(part, tuple))


class Texts(unittest.TestCase):
    def hold(self, text, working):
        read = read_working(text)
        self.assertEqual(read, working)
        self.assert_kinds(read, working)
        self.assertEqual(show_working(working), text)
        self.assertEqual(show_working(read), text)

    def assert_kinds(self, read, working):
        self.assertIs(type(read), type(working))
        if isinstance(read, tuple):
            for part, other in zip(read, working, strict=True):
                self.assert_kinds(part, other)

    def test_each_kind_of_step(self):
        self.hold("ab", AB)
        self.hold("back(ab)", ("back", AB))
        self.hold("join(ab,cd)", ("join", AB, CD))
        self.hold("mix(ab,ba)", ("mix", AB, "ba"))
        self.hold("within(ab,0,1)", ("within", AB, 0, 1))
        self.hold("less(ab,1)", ("less", AB, 1))

    def test_steps_in_steps(self):
        self.hold("back(back(ab))", ("back", ("back", AB)))
        self.hold("join(back(ab),cd)", ("join", ("back", AB), CD))
        self.hold("join(ab,back(cd))", ("join", AB, ("back", CD)))
        self.hold("join(join(ab,cd),join(cd,ab))", ("join", ("join", AB, CD), ("join", CD, AB)))
        self.hold("mix(join(ab,cd),dcba)", ("mix", ("join", AB, CD), "dcba"))
        less = ("less", ("mix", ("back", AB), "q"), 7)
        self.hold("within(less(mix(back(ab),q),7),10,999)", ("within", less, 10, 999))
        self.hold("less(within(join(ab,cd),1,3),0)", ("less", ("within", ("join", AB, CD), 1, 3), 0))

    def test_words_of_one_and_of_nine_letters(self):
        for word in ("a", "z", "abcdefghi", "zzzzzzzzz", "jklmnopqr", "stuvwxyz"):
            self.hold(word, ("word", word))
            self.hold(f"back({word})", ("back", ("word", word)))
            self.hold(f"mix({word},{word})", ("mix", ("word", word), word))

    def test_words_that_have_the_name_of_a_step(self):
        for name in NAMES:
            for word in (name, "a" + name, name + "a", name[1:], name[:-1]):
                self.hold(word, ("word", word))
                self.hold(f"back({word})", ("back", ("word", word)))
                self.hold(f"join({word},{word})", ("join", ("word", word), ("word", word)))
                self.hold(f"mix({word},{word})", ("mix", ("word", word), word))
                self.hold(f"within({word},3,4)", ("within", ("word", word), 3, 4))
                self.hold(f"less({word},3)", ("less", ("word", word), 3))

    def test_numbers(self):
        for number in (0, 1, 7, 9, 10, 42, 99, 100, 101, 500, 990, 999):
            self.hold(f"less(ab,{number})", ("less", AB, number))
            self.hold(f"within(ab,{number},0)", ("within", AB, number, 0))
            self.hold(f"within(ab,0,{number})", ("within", AB, 0, number))

    def test_thirty_deep(self):
        for name, behind in (("back", ()), ("mix", ("z",)), ("less", (3,)), ("within", (0, 999))):
            working = AB
            for depth in range(29):
                working = (name, working) + behind
            self.hold(told_text(working), working)
        ahead = behind = AB
        for depth in range(29):
            ahead = ("join", ahead, CD)
            behind = ("join", CD, behind)
        self.hold(told_text(ahead), ahead)
        self.hold(told_text(behind), behind)

    def test_a_hundred_parts(self):
        level = [("word", "ab"), ("word", "c")] * 25
        while len(level) > 1:
            level = [("join",) + tuple(level[at:at + 2]) if at + 1 < len(level) else level[at]
                     for at in range(0, len(level), 2)]
        working = ("back", level[0])
        self.assertEqual(parts_in(working), 100)
        self.hold(told_text(working), working)

    def test_workings_of_all_sorts(self):
        chance = random.Random(51)
        for turn in range(1500):
            working = working_at_random(chance, chance.randint(1, 6))
            self.hold(told_text(working), working)

    def test_arguments_by_their_names(self):
        self.assertEqual(read_working(text="back(ab)"), ("back", AB))
        self.assertEqual(show_working(working=("back", AB)), "back(ab)")


class Refusals(unittest.TestCase):
    def refused(self, thing):
        with self.assertRaises(CrossError) as caught:
            read_working(thing)
        self.assertIs(type(caught.exception), NoWorking)

    def test_words_that_are_none(self):
        for word in ("", "abcdefghij", "A", "Ab", "aB", "a1", "1", "a.", "#", "-", "a-b", "~", "_", "\u00e4", "\u0430"):
            self.refused(word)
            self.refused(f"back({word})")
            self.refused(f"join({word},ab)")
            self.refused(f"join(ab,{word})")
            self.refused(f"mix(ab,{word})")
            self.refused(f"mix({word},ab)")
            self.refused(f"within({word},0,1)")
            self.refused(f"less({word},0)")

    def test_blanks_and_line_feeds(self):
        for text in ("back(ab)", "join(ab,cd)", "mix(ab,ba)", "within(ab,0,1)", "less(ab,1)", "ab"):
            for at in range(len(text) + 1):
                self.refused(text[:at] + " " + text[at:])
                self.refused(text[:at] + "\n" + text[at:])
        self.refused(" ")
        self.refused("\n")

    def test_a_comma_or_a_bracket_left_out_or_told_twice(self):
        for text in (
            "back(ab)", "join(ab,cd)", "mix(ab,ba)", "within(ab,0,1)", "less(ab,1)", "back(back(ab))",
            "join(back(ab),less(cd,0))", "within(mix(ab,ba),0,1)",
        ):
            for at, sign in enumerate(text):
                if sign not in "(),":
                    continue
                without = text[:at] + text[at + 1:]
                self.refused(text[:at] + sign + text[at:])
                # Without the comma between two numbers there is one number, and with it a part too few.
                self.refused(without)

    def test_something_behind_the_last_bracket(self):
        for text in ("back(ab)", "join(ab,cd)", "mix(ab,ba)", "within(ab,0,1)", "less(ab,1)"):
            for more in ("a", ")", "(", ",", "()", ",ab", "(ab)", "0", text, "," + text):
                self.refused(text + more)
                self.refused(f"back({text}{more})")
        for more in ("()", ")", "(", ",", ",ab"):
            self.refused("ab" + more)

    def test_a_part_too_few_or_too_many(self):
        for text in (
            "back()", "back(ab,cd)", "back(ab,0)", "join()", "join(ab)", "join(ab,cd,ef)", "join(ab,cd,0)", "mix()",
            "mix(ab)", "mix(ab,ba,ba)", "mix(ab,ba,0)", "within()", "within(ab)", "within(ab,0)", "within(ab,0,1,2)",
            "within(ab,0,1,ab)", "within(0,1)", "less()", "less(ab)", "less(ab,0,1)", "less(0)", "less(ab,cd,0)",
            "back(,)", "join(,)", "join(ab,)", "join(,ab)", "mix(ab,)", "mix(,ab)", "within(ab,,1)", "within(ab,0,)",
            "less(ab,)", "less(,0)", "(ab)", "()", "(", ")", ",", "((ab))",
        ):
            self.refused(text)
            self.refused(f"back({text})")
            self.refused(f"join(ab,{text})")

    def test_a_part_of_another_kind(self):
        for text in (
            "back(7)", "join(7,ab)", "join(ab,7)", "mix(7,ab)", "mix(ab,7)", "mix(ab,back(ab))", "mix(ab,join(ab,cd))",
            "within(7,0,1)", "within(ab,cd,1)", "within(ab,0,cd)", "within(ab,back(cd),1)", "less(7,0)", "less(ab,cd)",
            "less(ab,back(cd))", "within(0,ab,1)", "less(0,ab)", "mix(ab,mix)(", "7", "0", "mix(ab,ba())",
        ):
            self.refused(text)

    def test_numbers_that_are_none(self):
        for number in (
            "00", "01", "000", "007", "010", "0999", "1000", "9999", "-1", "+1", "-0", "1.0", "1e1", "1_0", "x1", "1x",
            "0x1", "", " 1", "1 ", "\u0661", "\u00b2",
        ):
            self.refused(f"less(ab,{number})")
            self.refused(f"within(ab,{number},1)")
            self.refused(f"within(ab,0,{number})")

    def test_a_name_that_is_no_step(self):
        for name in (
            "word", "ab", "backs", "abac", "bac", "Back", "BACK", "joins", "mi", "with", "withins", "les", "a", "",
        ):
            for inside in ("ab", "ab,cd", "ab,0", "ab,0,1"):
                self.refused(f"{name}({inside})")
                self.refused(f"back({name}({inside}))")

    def test_what_is_no_text(self):
        for thing in (
            None, True, False, 0, 7, -1, 1.5, [], ["ab"], (), ("word", "ab"), ("back", AB), {}, {"ab": 1}, b"ab",
            object(), set(),
        ):
            self.refused(thing)


if __name__ == "__main__":
    unittest.main()
