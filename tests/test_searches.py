"""All plain workings of an answer: points 2, 3 and 27."""

import itertools
import random
import unittest

from crosswright.makings import made
from crosswright.searches import all_workings
from reckoning import book_of, plain_workings, words_at_random

AB = ("word", "ab")
CD = ("word", "cd")


class Searches(unittest.TestCase):
    def hold(self, words, answer, most, told):
        """That just the workings found another way are told, each once."""
        book = book_of(words)
        answers = all_workings(book, answer, most)
        self.assertIs(type(answers), list)
        self.assertEqual(len(answers), len(set(answers)))
        self.assertEqual(set(answers), set(told))
        for working in answers[:200]:
            self.assertIs(type(working), tuple)
            self.assertEqual(made(book, working), answer)

    def hold_all(self, words, most, answers=()):
        """For each text that can be made, as far as it is an answer, and for others."""
        told = plain_workings(words, most)
        for answer in sorted(told):
            if 1 <= len(answer) <= 9:
                self.hold(words, answer, most, told[answer])
        for answer in answers:
            self.hold(words, answer, most, told.get(answer, []))


class Ordinary(Searches):
    def test_a_word(self):
        self.hold(("ab",), "ab", 1, [AB])
        self.hold(("ab",), "ab", 0, [])
        self.hold(("ab",), "ba", 1, [])
        self.hold((), "ab", 5, [])

    def test_two_steps(self):
        self.hold(("ab",), "ba", 2, [("back", AB), ("mix", AB, "ba")])
        self.hold(("ab",), "a", 2, [("within", AB, 0, 1), ("less", AB, 1)])
        self.hold(("ab",), "b", 2, [("within", AB, 1, 2), ("less", AB, 0)])

    def test_joins(self):
        self.hold(("ab", "cd"), "abcd", 3, [("join", AB, CD)])
        self.hold(("ab", "cd"), "abcd", 2, [])
        self.hold(("ab", "cd", "abcd"), "abcd", 3, [
            ("join", AB, CD), ("word", "abcd"), ("back", ("back", ("word", "abcd"))),
            ("back", ("mix", ("word", "abcd"), "dcba")),
        ])
        self.assertIn(("join", ("back", AB), CD), all_workings(book_of(("ab", "cd")), "bacd", 4))
        self.assertNotIn(("join", ("back", AB), CD), all_workings(book_of(("ab", "cd")), "bacd", 3))
        # Each place where an answer can be parted.
        words = ("aa", "aaa", "aaaa")
        self.assertEqual(
            {working for working in all_workings(book_of(words), "aaaaaa", 3) if working[0] == "join"},
            {("join", ("word", "a" * at), ("word", "a" * (6 - at))) for at in (2, 3, 4)},
        )

    def test_three_steps_where_it_is_left_out(self):
        for words, answer in (
            (("ab", "cd"), "abcd"), (("ab", "cd", "abc"), "ba"), (("ab",), "a"), (("ab", "ba"), "ab"),
        ):
            told = plain_workings(words, 3).get(answer, [])
            answers = all_workings(book_of(words), answer)
            self.assertEqual(len(answers), len(told))
            self.assertEqual(set(answers), set(told))
        self.assertIn(("join", AB, CD), all_workings(book_of(("ab", "cd")), "abcd"))
        self.assertEqual(all_workings(book_of(("ab", "cd")), "bacd"), [])

    def test_only_words_are_mixed_cut_and_lessened(self):
        # within(join(ab,cd),1,3) makes it, but is no plain working.
        self.hold(("ab", "cd"), "bc", 4, [])
        self.assertEqual(len(all_workings(book_of(("ab", "cd")), "bc", 5)), 4)

    def test_words_that_are_turned_about_alike(self):
        self.hold(("aba",), "aba", 2, [("word", "aba"), ("back", ("word", "aba"))])
        self.hold_all(("aba", "zz"), 5)

    def test_letters_more_than_once(self):
        word = ("word", "aab")
        # Both places of the a, each by itself.
        self.hold(("aab",), "ab", 2, [("within", word, 1, 3), ("less", word, 0), ("less", word, 1)])
        self.hold(("aab",), "a", 2, [("within", word, 0, 1), ("within", word, 1, 2)])
        # Each T but once.
        self.hold(("aab",), "aba", 2, [("mix", word, "aba")])
        self.hold(("aab",), "baa", 2, [("mix", word, "baa"), ("back", word)])
        self.hold(("aab",), "aab", 2, [word])
        self.hold_all(("aab", "aaa", "ba"), 4)

    def test_answers_of_nine_letters(self):
        nine = ("word", "abcdefghi")
        self.hold(("abcdefghi",), "abcdefghi", 1, [nine])
        self.hold(("abcdefghi",), "ihgfedcba", 2, [("back", nine), ("mix", nine, "ihgfedcba")])
        self.hold(("abcd", "efghi"), "abcdefghi", 3, [("join", ("word", "abcd"), ("word", "efghi"))])
        self.hold(("ab", "cd", "efghi"), "abcdefghi", 5, [
            ("join", ("join", AB, CD), ("word", "efghi")), ("join", AB, ("join", CD, ("word", "efghi"))),
        ])

    def test_numbers_and_answers_beyond_those_told(self):
        self.hold(("ab",), "", 5, [])
        self.hold(("abcde", "fghij"), "abcdefghij", 3, [("join", ("word", "abcde"), ("word", "fghij"))])
        self.hold(("ab",), "ba", 6, plain_workings(("ab",), 6)["ba"])

    def test_arguments_by_their_names(self):
        self.assertEqual(all_workings(book=book_of(("ab",)), answer="ab", most=1), [AB])

    def test_nothing_is_changed_and_a_new_list(self):
        book = book_of({"ab": 3, "cd": 4})
        told = all_workings(book, "ba", 3)
        kept = list(told)
        again = all_workings(book, "ba", 3)
        self.assertEqual(sorted(map(str, again)), sorted(map(str, told)))
        again.clear()
        self.assertEqual(told, kept)
        self.assertEqual(set(all_workings(book, "ba", 3)), set(kept))
        self.assertEqual([(word, book.worth(word)) for word in book.words()], [("ab", 3), ("cd", 4)])
        book.drop("ab")
        self.assertEqual(told, kept)
        self.assertEqual(all_workings(book, "ba", 3), [])


class Small(Searches):
    """Small books, each answer that can be made of them, held against all plain workings made from the words on."""

    def test_each_number_of_steps(self):
        others = ("a", "q", "ab", "zzz", "abab", "abcabcabc", "qqqqqqqqq")
        for words in (("ab",), ("ab", "ba"), ("ab", "bc"), ("abc",), ("aa", "aab"), ("aba", "ab")):
            for most in range(6):
                self.hold_all(words, most, others)

    def test_more_words(self):
        for words in (("ab", "abc", "bcd"), ("aabb", "ab", "bba"), ("aa", "aaa", "aaaa"), ("abcd", "dcba", "bc", "ad")):
            for most in range(5):
                self.hold_all(words, most, ("a", "abcd", "zz"))

    def test_books_at_random(self):
        chance = random.Random(71)
        for turn in range(25):
            words = words_at_random(chance, (2, 3, 4), "abc", chance.randint(1, 4))
            self.hold_all(words, chance.randint(2, 4))

    def test_long_words(self):
        words = ("abcdabc", "aaaaaa", "bcda")
        told = plain_workings(words, 3)
        chance = random.Random(72)
        for answer in chance.sample(sorted(text for text in told if len(text) < 10), 150):
            self.hold(words, answer, 3, told[answer])

    def test_answers_of_all_lengths(self):
        words = ("ab", "abc", "cab")
        told = plain_workings(words, 5)
        lengths = set()
        for length, answers in itertools.groupby(sorted(told, key=len), key=len):
            for answer in list(answers)[:6]:
                if length < 10:
                    lengths.add(length)
                    self.hold(words, answer, 5, told[answer])
        self.assertEqual(lengths, set(range(1, 10)))


if __name__ == "__main__":
    unittest.main()
