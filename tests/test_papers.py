"""Papers: points 2, 16, 17 and 19, and what points 18 and 19 draw from them."""

import itertools
import random
import unittest

from crosswright.papers import Cases, Paper, Short, Whole
from crosswright.rows import rows_of
from reckoning import book_of, fitting, left, signs_at, told_bounded, told_closed, with_word

GREATEST = int("9" * 60)
EMPTY = ("..", "..")
SQUARE = ("ab", "cd")
OTHER = ("ac", "bd")
# Of the sheet EMPTY, by the first row across; the rows are: 0 and 1 across, 2 and 3 down.
WORTHS = {"ab": 1, "ac": 2, "bd": 4, "cd": 8}


def all_fillings(worths, sheet):
    """All fillings that agree with a sheet each of whose open cells stands in a row across."""
    across = [place for place, row in enumerate(rows_of(sheet)) if row[1] == "across"]
    told = []
    for words in itertools.product(*[fitting(worths, sheet, place) for place in across]):
        after = sheet
        for place, word in zip(across, words):
            after = with_word(after, place, word)
        signs = [signs_at(after, place) for place in range(len(rows_of(sheet)))]
        if set(signs) <= set(worths) and len(set(signs)) == len(signs):
            told.append(after)
    return told


def any_paper(chance, worths, sheet, ends):
    """A paper that goes by the words left, row by row in any turn, and ends by one of some kinds."""
    places = [place for place in range(len(rows_of(sheet))) if "." in signs_at(sheet, place)]
    dead = [place for place in range(len(rows_of(sheet))) if not left(worths, sheet, place)]
    if dead and chance.random() < 0.8:
        return Cases(chance.choice(dead), [])
    if not places or chance.random() < 0.05:
        return chance.choice(ends)()
    place = chance.choice(places)
    words = sorted(left(worths, sheet, place), key=lambda word: chance.random())
    return Cases(place, [(word, any_paper(chance, worths, with_word(sheet, place, word), ends)) for word in words])


def spoilt(chance, paper):
    """A paper that is unlike another one at one place, somewhere within."""
    if not isinstance(paper, Cases) or (paper.parts and chance.random() < 0.1):
        return chance.choice((Whole(), Short(), Cases(0, []), Cases(1, [("ab", Whole())])))
    parts = list(paper.parts)
    deed = chance.randrange(6)
    if deed == 0 or not parts:
        return Cases(paper.place + chance.choice((-9, -4, -1, 1, 4, 9)), parts)
    at = chance.randrange(len(parts))
    if deed == 1:
        parts.pop(at)
    elif deed == 2:
        parts.append(parts[at])
    elif deed == 3:
        parts[at] = (chance.choice(("ab", "zz", "abc", "", "Ab")), parts[at][1])
    else:
        parts[at] = (parts[at][0], spoilt(chance, parts[at][1]))
    return Cases(paper.place, parts)


class Making(unittest.TestCase):
    def test_classes(self):
        for kind in (Cases, Whole, Short):
            self.assertTrue(issubclass(kind, Paper))
        for kind, other in itertools.permutations((Cases, Whole, Short), 2):
            self.assertFalse(issubclass(kind, other))
        for paper in (Cases(0, []), Whole(), Short()):
            self.assertIsInstance(paper, Paper)

    def test_fields(self):
        ends = (Whole(), Short())
        paper = Cases(3, [("ab", ends[0]), ("cd", ends[1])])
        self.assertEqual(paper.place, 3)
        self.assertIs(type(paper.parts), list)
        self.assertEqual([part[0] for part in paper.parts], ["ab", "cd"])
        self.assertIs(paper.parts[0][1], ends[0])
        self.assertIs(paper.parts[1][1], ends[1])
        self.assertTrue(all(type(part) is tuple for part in paper.parts))

    def test_made_by_the_names_of_the_arguments(self):
        paper = Cases(place=1, parts=[])
        self.assertEqual((paper.place, paper.parts), (1, []))
        book = book_of(WORTHS)
        self.assertIs(paper.closes(book=book, sheet=("x.", ".."), told=[]), False)
        self.assertIs(Short().bounds(book=book, sheet=SQUARE, most=15), True)

    def test_papers_can_be_made_whatever_they_would_show(self):
        for place in (-300, -1, 0, 99, 10 ** 70):
            for words in ((), ("",), ("Zz", "Zz"), ("ab", "~" * 300), ("a b", "12", "ab")):
                parts = [(word, Short()) for word in words]
                paper = Cases(place, parts)
                self.assertEqual((paper.place, paper.parts), (place, parts))

    def test_the_list_handed_in_is_copied(self):
        parts = [("ab", Whole())]
        paper = Cases(0, parts)
        other = Cases(0, parts)
        self.assertIsNot(paper.parts, parts)
        self.assertIsNot(paper.parts, other.parts)
        parts.append(("cd", Whole()))
        parts[0] = ("zz", Short())
        self.assertEqual([word for word, part in paper.parts], ["ab"])
        self.assertIsInstance(paper.parts[0][1], Whole)
        book = book_of({"ab": 1})
        self.assertIs(paper.closes(book, ("..",), [("ab",)]), True)
        none = []
        paper = Cases(0, none)
        none.append(("ab", Whole()))
        self.assertEqual(paper.parts, [])
        self.assertEqual(Cases(0, []).parts, [])


class Closing(unittest.TestCase):
    def setUp(self):
        self.book = book_of(WORTHS)
        # With ab or ac in row 0 the other rows are as good as told; bd and cd leave none for row 2 or 3.
        self.parts = [
            ("ab", Cases(1, [("ac", Cases(2, [])), ("bd", Cases(2, [])), ("cd", Whole())])),
            ("ac", Cases(1, [("ab", Cases(2, [])), ("bd", Whole()), ("cd", Cases(2, []))])),
            ("bd", Cases(3, [])),
            ("cd", Cases(3, [])),
        ]
        self.told = [SQUARE, OTHER]

    def closes(self, paper, sheet=EMPTY, told=None):
        told = self.told if told is None else told
        answer = paper.closes(self.book, sheet, told)
        self.assertIs(type(answer), bool)
        self.assertIs(answer, told_closed(paper, WORTHS, sheet, told))
        return answer

    def test_a_paper_that_closes(self):
        self.assertTrue(self.closes(Cases(0, self.parts)))
        self.assertTrue(self.closes(Cases(0, self.parts), told=[OTHER, ("zz", "zz"), SQUARE, SQUARE]))

    def test_a_told_sheet_less(self):
        self.assertFalse(self.closes(Cases(0, self.parts), told=[SQUARE]))
        self.assertFalse(self.closes(Cases(0, self.parts), told=[OTHER]))
        self.assertFalse(self.closes(Cases(0, self.parts), told=[]))

    def test_parts_in_any_turn(self):
        for parts in itertools.permutations(self.parts):
            self.assertTrue(self.closes(Cases(0, list(parts))))

    def test_a_part_less_twice_or_more(self):
        for number, part in enumerate(self.parts):
            self.assertFalse(self.closes(Cases(0, self.parts[:number] + self.parts[number + 1:])))
            self.assertFalse(self.closes(Cases(0, self.parts + [part])))
            self.assertFalse(self.closes(Cases(0, [part] + self.parts)))
            others = [self.parts[number - 1]] + self.parts[:number] + self.parts[number + 1:]
            self.assertFalse(self.closes(Cases(0, others)))
        for word in ("zz", "ad", "abc", "a", "", "AB", "..", "~"):
            self.assertFalse(self.closes(Cases(0, self.parts + [(word, Cases(0, []))])))
            self.assertFalse(self.closes(Cases(0, self.parts[1:] + [(word, self.parts[0][1])])))

    def test_a_part_whose_paper_closes_nothing(self):
        for number, part in enumerate(self.parts):
            for paper in (Short(), Whole(), Cases(0, []), Cases(0, [(part[0], Short())]), Cases(9, [])):
                parts = self.parts[:number] + [(part[0], paper)] + self.parts[number + 1:]
                self.assertFalse(self.closes(Cases(0, parts)))

    def test_each_part_speaks_of_its_own_word(self):
        words = [word for word, paper in self.parts]
        papers = [paper for word, paper in self.parts]
        self.assertFalse(self.closes(Cases(0, list(zip(words, papers[1:] + papers[:1])))))
        self.assertFalse(self.closes(Cases(1, self.parts)))
        self.assertFalse(self.closes(Cases(3, self.parts)))

    def test_a_place_where_no_row_is(self):
        for place in (-1, -4, -5, 4, 5, 300):
            self.assertFalse(self.closes(Cases(place, self.parts)))
            self.assertFalse(self.closes(Cases(place, [])))
            self.assertFalse(self.closes(Cases(place, []), sheet=("zz", "zz")))
        # The rows from the end are the same two in this sheet, where each place stands for a row without words.
        for place, closed in ((-4, False), (-1, False), (0, True), (3, True), (4, False)):
            self.assertIs(self.closes(Cases(place, []), sheet=("zz", "zz")), closed)

    def test_without_rows(self):
        for sheet in (("#",), ("###", "###"), ("a",), (".",)):
            for place in (-1, 0, 1):
                self.assertFalse(self.closes(Cases(place, []), sheet=sheet, told=[sheet]))
        self.assertTrue(self.closes(Whole(), sheet=("#",), told=[("#",)]))
        self.assertTrue(self.closes(Whole(), sheet=("a#b",), told=[("a#b",)]))
        self.assertFalse(self.closes(Whole(), sheet=("#",), told=[]))
        self.assertFalse(self.closes(Whole(), sheet=("#",), told=[("##",), ("a",)]))
        self.assertFalse(self.closes(Whole(), sheet=(".",), told=[(".",)]))

    def test_whole(self):
        self.assertTrue(self.closes(Whole(), sheet=SQUARE))
        self.assertTrue(self.closes(Whole(), sheet=OTHER))
        self.assertFalse(self.closes(Whole(), sheet=SQUARE, told=[]))
        self.assertFalse(self.closes(Whole(), sheet=SQUARE, told=[OTHER]))
        # A told sheet need be no filling.
        self.assertTrue(self.closes(Whole(), sheet=("zz", "zz"), told=[("zz", "zz")]))
        self.assertFalse(self.closes(Whole(), sheet=("zz", "zz")))
        # A free cell, told or not.
        for sheet in (("a.", "cd"), ("ab", "c."), EMPTY):
            self.assertFalse(self.closes(Whole(), sheet=sheet, told=[sheet, SQUARE]))
            self.assertFalse(self.closes(Whole(), sheet=sheet))

    def test_short_closes_none(self):
        for sheet in (EMPTY, SQUARE, ("zz", ".."), ("#",), ("a.", "..")):
            self.assertFalse(self.closes(Short(), sheet=sheet, told=[sheet]))
            self.assertFalse(self.closes(Short(), sheet=sheet, told=[]))

    def test_cases_without_parts(self):
        self.assertTrue(self.closes(Cases(0, []), sheet=("x.", "..")))
        self.assertTrue(self.closes(Cases(2, []), sheet=("x.", "..")))
        self.assertFalse(self.closes(Cases(1, []), sheet=("x.", "..")))
        self.assertFalse(self.closes(Cases(0, [])))
        self.assertTrue(self.closes(Cases(0, []), sheet=("ba", "..")))
        # A word that fits, but stands in another full row: row 0 has ab, and row 2 begins with it too.
        self.assertTrue(self.closes(Cases(0, []), sheet=("ab", "b.")))
        self.assertTrue(self.closes(Cases(2, []), sheet=("ab", "b.")))

    def test_a_full_row_can_be_a_case(self):
        self.assertTrue(self.closes(Cases(0, [("ab", Whole())]), sheet=SQUARE))
        self.assertFalse(self.closes(Cases(0, []), sheet=SQUARE))
        self.assertFalse(self.closes(Cases(0, [("cd", Whole())]), sheet=SQUARE))

    def test_a_deep_paper(self):
        paper = Whole()
        for depth in range(99):
            paper = Cases(depth % 4, [(("ab", "cd", "ac", "bd")[depth % 4], paper)])
        self.assertTrue(self.closes(paper, sheet=SQUARE))
        self.assertFalse(self.closes(paper, sheet=SQUARE, told=[OTHER]))
        self.assertFalse(self.closes(paper, sheet=OTHER))

    def test_floors_that_are_not_let_by(self):
        words = ("ab", "ac", "bd", "cd")
        paper = Cases(0, [(word, Whole()) for word in words])
        told = [(word,) for word in words]
        self.assertTrue(self.closes(paper, sheet=("..",), told=told))
        self.assertFalse(self.closes(paper, sheet=("..",), told=told[1:]))

    def test_nothing_that_is_handed_in_is_changed(self):
        told = [SQUARE, OTHER, ("zz", "zz")]
        paper = Cases(0, self.parts)
        paper.closes(self.book, EMPTY, told)
        paper.bounds(self.book, EMPTY, 3)
        self.assertEqual(told, [SQUARE, OTHER, ("zz", "zz")])
        self.assertEqual(paper.parts, self.parts)
        self.assertEqual({word: self.book.worth(word) for word in self.book.words()}, WORTHS)

    def test_the_book_as_it_is_when_asked(self):
        paper = Cases(0, self.parts)
        self.book.put("zz")
        self.assertIs(paper.closes(self.book, EMPTY, self.told), False)
        self.book.drop("zz")
        self.assertIs(paper.closes(self.book, EMPTY, self.told), True)
        self.book.drop("cd")
        self.assertIs(paper.closes(self.book, EMPTY, self.told), False)


class Bounding(unittest.TestCase):
    def setUp(self):
        self.book = book_of(WORTHS)

    def bounds(self, paper, sheet, most, worths=None):
        worths = WORTHS if worths is None else worths
        answer = paper.bounds(book_of(worths), sheet, most)
        self.assertIs(type(answer), bool)
        self.assertIs(answer, told_bounded(paper, worths, sheet, most))
        return answer

    def test_a_row_that_no_word_fits(self):
        for sheet in (("x.", ".."), ("..", ".x"), (".x", ".."), ("zz", "zz"), ("ba", ".."), ("ab#...",)):
            self.assertTrue(self.bounds(Short(), sheet, 0))
        self.assertTrue(self.bounds(Short(), EMPTY, 0, {}))
        self.assertTrue(self.bounds(Short(), EMPTY, 0, {"abc": 5}))

    def test_the_greatest_worths(self):
        # 8 is the greatest worth for each of the four rows.
        for most, bounded in ((0, False), (31, False), (32, True), (33, True), (GREATEST, True)):
            self.assertIs(self.bounds(Short(), EMPTY, most), bounded)
        # Rows a. and .. across, a. and .. down: 2, 8, 2, 8.
        for most, bounded in ((19, False), (20, True), (21, True)):
            self.assertIs(self.bounds(Short(), ("a.", ".."), most), bounded)
        # The worths of a filling itself.
        for most, bounded in ((14, False), (15, True), (16, True)):
            self.assertIs(self.bounds(Short(), SQUARE, most), bounded)

    def test_words_that_fit_count_though_they_are_not_left(self):
        # ab is taken by row 0, but fits row 2 too: 9 for each of these, though no word is left for row 2.
        worths = {"ab": 9, "bb": 1, "cc": 1}
        for most, bounded in ((19, False), (20, True)):
            self.assertIs(self.bounds(Short(), ("ab", "b#"), most, {"ab": 10}), bounded)
        for most, bounded in ((17, False), (18, True)):
            self.assertIs(self.bounds(Short(), ("ab#a.",), most, worths), bounded)

    def test_worths_of_nought_are_worths(self):
        worths = {"ab": 0, "ac": 0, "bd": 0, "cd": 0}
        self.assertTrue(self.bounds(Short(), EMPTY, 0, worths))
        self.assertTrue(self.bounds(Short(), SQUARE, 0, worths))

    def test_great_worths(self):
        worths = dict.fromkeys(WORTHS, GREATEST)
        self.assertFalse(self.bounds(Short(), EMPTY, 4 * GREATEST - 1, worths))
        self.assertTrue(self.bounds(Short(), EMPTY, 4 * GREATEST, worths))

    def test_without_rows(self):
        for sheet in (("#",), ("###", "###"), ("a",), (".",)):
            for worths in (WORTHS, {}):
                self.assertTrue(self.bounds(Short(), sheet, 0, worths))
                self.assertTrue(self.bounds(Short(), sheet, 5, worths))
                self.assertFalse(self.bounds(Cases(0, []), sheet, 5, worths))

    def test_whole_bounds_none(self):
        for sheet in (EMPTY, SQUARE, ("zz", "zz"), ("#",)):
            for most in (0, 15, GREATEST):
                self.assertFalse(self.bounds(Whole(), sheet, most))

    def test_cases(self):
        dead = Cases(3, [])
        parts = [("ab", Short()), ("ac", Short()), ("bd", dead), ("cd", dead)]
        # Behind ab in row 0: 1, 8, 2, 4; behind ac: 2, 8, 2, 8.
        for most, bounded in ((14, False), (15, False), (19, False), (20, True), (21, True)):
            self.assertIs(self.bounds(Cases(0, parts), EMPTY, most), bounded)
        self.assertTrue(self.bounds(Cases(0, parts[::-1]), EMPTY, 20))
        self.assertFalse(self.bounds(Cases(0, parts[1:]), EMPTY, 20))
        self.assertFalse(self.bounds(Cases(0, parts[:3]), EMPTY, 20))
        self.assertFalse(self.bounds(Cases(0, parts + [("zz", dead)]), EMPTY, 20))
        self.assertFalse(self.bounds(Cases(0, parts + parts[:1]), EMPTY, 20))
        self.assertFalse(self.bounds(Cases(0, [("ab", Whole())] + parts[1:]), EMPTY, 20))
        self.assertFalse(self.bounds(Cases(0, parts[:3] + [("cd", Cases(1, []))]), EMPTY, 20))

    def test_cases_at_a_place_where_no_row_is(self):
        for place in (-5, -4, -1, 4, 5):
            self.assertFalse(self.bounds(Cases(place, []), ("zz", "zz"), 50))
        self.assertTrue(self.bounds(Cases(0, []), ("zz", "zz"), 0))

    def test_cases_without_parts(self):
        self.assertTrue(self.bounds(Cases(0, []), ("x.", ".."), 0))
        self.assertFalse(self.bounds(Cases(1, []), ("x.", ".."), 50))
        self.assertFalse(self.bounds(Cases(0, []), EMPTY, 50))

    def test_a_deep_paper(self):
        paper = Short()
        for depth in range(99):
            paper = Cases(depth % 4, [(("ab", "cd", "ac", "bd")[depth % 4], paper)])
        self.assertTrue(self.bounds(paper, SQUARE, 15))
        self.assertFalse(self.bounds(paper, SQUARE, 14))


class Many(unittest.TestCase):
    """Papers of all sorts, some of them spoilt, on small sheets: held against the other road."""

    SHEETS = (
        EMPTY, ("a.", ".."), ("..", ".b"), ("ab", ".."), ("...", "..."), ("#..", "...", "..#"),
        ("..##", "....", "##.."), SQUARE, ("ba", "ab"),
    )

    def books(self):
        two = ["aa", "ab", "ba", "bb", "ac", "bc", "cb"]
        three = ["aab", "aba", "abb", "bab", "baa", "bba"]
        four = ["abba", "baab", "abab"]
        for seed in range(4):
            chance = random.Random(seed)
            words = chance.sample(two, 5) + chance.sample(three, 4) + chance.sample(four, 2)
            yield {word: chance.choice((0, 1, 2, 3, 10)) for word in words}

    def test_closes(self):
        chance = random.Random(1)
        answers = {True: 0, False: 0}
        for worths, sheet in itertools.product(self.books(), self.SHEETS):
            book = book_of(worths)
            fillings = all_fillings(worths, sheet)
            for turn in range(6):
                paper = any_paper(chance, worths, sheet, (Whole,) * 9 + (Short,))
                for paper in (paper, spoilt(chance, paper)):
                    for told in (fillings, fillings[1:]):
                        answer = paper.closes(book, sheet, told)
                        self.assertIs(answer, told_closed(paper, worths, sheet, told))
                        # Point 18: what is closed has no filling but told ones.
                        self.assertFalse(answer and set(fillings) - set(told))
                        answers[answer] += 1
        self.assertGreater(min(answers.values()), 150)

    def test_bounds(self):
        chance = random.Random(2)
        answers = {True: 0, False: 0}
        for worths, sheet in itertools.product(self.books(), self.SHEETS):
            book = book_of(worths)
            greatest = max([sum(worths[signs_at(filling, place)] for place in range(len(rows_of(sheet))))
                            for filling in all_fillings(worths, sheet)], default=-1)
            for turn in range(6):
                paper = any_paper(chance, worths, sheet, (Short,) * 30 + (Whole,))
                for paper in (paper, spoilt(chance, paper)):
                    for most in (0, max(greatest, 1) - 1, max(greatest, 0), greatest + 5):
                        answer = paper.bounds(book, sheet, most)
                        self.assertIs(answer, told_bounded(paper, worths, sheet, most))
                        # No filling has more worth than what is bounded.
                        self.assertFalse(answer and greatest > most)
                        answers[answer] += 1
        self.assertGreater(min(answers.values()), 150)


if __name__ == "__main__":
    unittest.main()
