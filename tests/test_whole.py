"""The whole program: points 2 and 3, from the functions and from the desk, held against a second reckoning."""

import random
import unittest

from crosswright.bests import best
from crosswright.desk import Desk
from crosswright.fills import fillings
from crosswright.givens import least
from crosswright.makings import made, steps
from crosswright.searches import all_workings
from crosswright.workings import read_working, show_working
from reckoning import (
    FLOORS, all_fillings, book_of, filled_at_random, is_told, plain_workings, rows_in, told_bounded, told_closed,
    words_at_random, worth_in,
)

WORTHS = (0, 1, 2, 7, 10 ** 20, int("9" * 60))


def desk_of(worths, **sheets):
    desk = Desk()
    for word, worth in worths.items():
        desk.say(f"word {word} {worth}")
    for name, sheet in sheets.items():
        desk.say(f"sheet {name} {'/'.join(sheet)}")
    return desk


def cases():
    """Worths of words, and a sheet, some with fillings and some without."""
    chance = random.Random(81)
    for floor in FLOORS:
        lengths = [len(run) for run in rows_in(floor)] or [2]
        for turn in range(12):
            letters = ("ab", "abc", "abcdef")[turn % 3]
            grid = filled_at_random(chance, floor, letters)
            words = set(words_at_random(chance, lengths, letters, 4))
            if turn % 4:
                words |= set(rows_in(grid))
            share = chance.choice((0, 0, 0.2, 0.5, 1))
            sheet = tuple(
                "".join(sign if sign == "#" or chance.random() < share else "." for sign in line) for line in grid
            )
            yield {word: chance.choice(WORTHS) for word in sorted(words)}, sheet


class Fillings(unittest.TestCase):
    def test_by_the_functions(self):
        seen = {0: 0, 1: 0, 2: 0}
        for worths, sheet in cases():
            book = book_of(worths)
            want = all_fillings(worths, sheet)
            seen[min(2, len(want))] += 1
            for most in (1, 2, len(want) + 1):
                told, paper = fillings(book, sheet, most)
                self.assertEqual(len(set(told)), min(most, len(want)))
                self.assertLessEqual(set(told), want)
                self.assertEqual(paper is None, len(want) >= most)
                if paper is not None:
                    self.assertTrue(told_closed(paper, worths, sheet, told))
                    self.assertIs(paper.closes(book, sheet, told), True)
            filling, worth, paper = best(book, sheet)
            if want:
                self.assertIn(filling, want)
                self.assertEqual(worth, worth_in(worths, filling))
                self.assertEqual(worth, max(worth_in(worths, other) for other in want))
                self.assertTrue(told_bounded(paper, worths, sheet, worth))
                self.assertIs(paper.bounds(book, sheet, worth), True)
            else:
                self.assertEqual((filling, worth), (None, None))
                self.assertTrue(told_closed(paper, worths, sheet, []))
                self.assertIs(paper.closes(book, sheet, []), True)
        self.assertGreater(min(seen.values()), 10)

    def test_by_the_desk(self):
        for worths, sheet in cases():
            want = all_fillings(worths, sheet)
            desk = desk_of(worths, one=sheet)
            lines = {"/".join(filling) for filling in want}
            self.assertEqual(desk.say("show one"), "/".join(sheet))
            self.assertEqual(desk.say("count one"), ("none", "one", "more")[min(2, len(want))])
            if not want:
                self.assertEqual(desk.say("fill one"), "none")
                self.assertEqual(desk.say("best one"), "none")
                continue
            self.assertIn(desk.say("fill one"), lines)
            self.assertEqual(desk.say("best one"), str(max(worth_in(worths, filling) for filling in want)))
            # What was filled is a filling, against which what was given is right.
            desk.say("sheet two " + desk.say("fill one"))
            self.assertEqual(desk.say("count two"), "one")
            self.assertEqual(desk.say("mark two one"), "/".join(sheet))

    def test_least_givens_by_both(self):
        seen = 0
        for worths, sheet in cases():
            floor = tuple("".join("#" if sign == "#" else "." for sign in line) for line in sheet)
            want = all_fillings(worths, floor)
            for filling in sorted(want)[:3]:
                givens, seconds = least(book_of(worths), filling)
                self.assertEqual([other for other in want if is_told(worths, givens, other)], [filling])
                self.assertEqual(len(seconds), len("".join(givens).replace("#", "").replace(".", "")))
                for (line, column), other in seconds:
                    self.assertIn(other, want - {filling})
                    lines = [list(signs) for signs in givens]
                    self.assertEqual(lines[line][column], filling[line][column])
                    lines[line][column] = "."
                    self.assertTrue(is_told(worths, tuple("".join(signs) for signs in lines), other))
                    seen += 1
                desk = desk_of(worths, full=filling)
                desk.say("sheet part " + desk.say("least full"))
                self.assertEqual(desk.say("count part"), "one")
                self.assertEqual(desk.say("fill part"), "/".join(filling))
                part = desk.say("show part")
                # A letter less, and there are more.
                for at, sign in enumerate(part):
                    if sign not in "#./":
                        desk.say("sheet less " + part[:at] + "." + part[at + 1:])
                        self.assertEqual(desk.say("count less"), "more")
        self.assertGreater(seen, 50)


class Workings(unittest.TestCase):
    def test_all_of_small_books(self):
        chance = random.Random(82)
        for turn in range(12):
            words = words_at_random(chance, (2, 3), "abc", chance.randint(1, 3))
            book = book_of(words)
            desk = desk_of(dict.fromkeys(words, 0))
            for most in range(6):
                told = plain_workings(words, most)
                answers = [text for text in sorted(told) if len(text) < 10]
                for answer in chance.sample(answers, min(len(answers), 20)) + ["a", "ccc"]:
                    want = told.get(answer, [])
                    workings = all_workings(book, answer, most)
                    self.assertEqual(len(workings), len(want))
                    self.assertEqual(set(workings), set(want))
                    self.assertEqual(desk.say(f"work {answer} {most}"), str(len(want)))
                    for working in workings[:10]:
                        self.assertEqual(desk.say("make " + show_working(working)), answer)

    def test_a_working_makes_its_answer_step_by_step(self):
        book = book_of(("abc", "de", "fa"))
        for text in ("join(back(abc),less(de,0))", "mix(join(de,fa),fade)", "within(join(abc,join(de,fa)),2,5)"):
            working = read_working(text)
            known = {}
            for part, answer in steps(book, working):
                # Each part's own parts have been made ahead of it.
                self.assertTrue(all(piece in known for piece in part if isinstance(piece, tuple)))
                self.assertEqual(made(book, part), answer)
                known[part] = answer
            self.assertEqual(desk_of({"abc": 1, "de": 2, "fa": 3}).say("make " + text), known[working])


if __name__ == "__main__":
    unittest.main()
