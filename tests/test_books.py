"""Books: points 2, 10, 11 and 12."""

import itertools
import re
import unittest

from crosswright.books import Book, read_book
from crosswright.errors import CrossError, NoLine, NotThere, NoWord, Twice

LETTERS = "abcdefghijklmnopqrstuvwxyz"
GREATEST = int("9" * 60)


class Odd:
    """A thing that can be neither compared, hashed nor written."""

    __hash__ = None

    def __eq__(self, other):
        raise RuntimeError

    def __repr__(self):
        raise RuntimeError


NO_WORDS = (
    "", "a", "z", "abcdefghij", "ab" * 150, "Ab", "aB", "AB", "a b", " ab", "ab ", "  ", "a1", "12", "a-b", "a.", "..",
    "ab\n", "\nab", "a\nb", "ab\t", "\u00e4b", "#a", "a_", "`a", "a{", 0, 5, -1, 10 ** 70, None, True, False, 1.5,
    b"ab", [], ["ab"], ["a", "b"], (), ("ab",), ("a", "b"), {}, {"ab": 1}, {"ab"}, str, object(), Odd(),
)


def book_of(*words):
    book = Book()
    for number, word in enumerate(words):
        book.put(word, number)
    return book


def content(book):
    return [(word, book.worth(word)) for word in book.words()]


class Keeping(unittest.TestCase):
    def refused(self, kind, word, deed, *more):
        with self.assertRaises(CrossError) as caught:
            deed(word, *more)
        self.assertIs(type(caught.exception), kind)
        self.assertIs(caught.exception.word, word)

    def test_at_first_there_are_no_words(self):
        self.assertEqual(Book().words(), [])

    def test_words_are_told_sorted(self):
        book = book_of("ba", "abc", "ab", "zz", "b" * 9, "aab", "az")
        self.assertEqual(book.words(), ["aab", "ab", "abc", "az", "ba", "bbbbbbbbb", "zz"])

    def test_put_and_drop_give_nothing(self):
        book = Book()
        self.assertIsNone(book.put("ab"))
        self.assertIsNone(book.put("cd", 3))
        self.assertIsNone(book.drop("ab"))

    def test_worths(self):
        book = Book()
        book.put("ab")
        book.put("cd", 0)
        book.put("ef", 1)
        book.put("gh", GREATEST)
        book.put("ij", GREATEST - 1)
        self.assertEqual([book.worth(word) for word in book.words()], [0, 0, 1, GREATEST, GREATEST - 1])
        self.assertTrue(all(type(book.worth(word)) is int for word in book.words()))

    def test_arguments_by_their_names(self):
        book = Book()
        book.put(word="ab", worth=7)
        self.assertEqual(book.worth(word="ab"), 7)
        self.assertIs(book.has(word="ab"), True)
        self.assertEqual(book.fitting(pattern="a."), ["ab"])
        book.drop(word="ab")
        self.assertEqual(read_book(text="ab 7").words(), ["ab"])

    def test_words_of_every_length_and_letter(self):
        book = Book()
        words = [LETTERS[:length] for length in range(2, 10)] + [letter * 2 for letter in LETTERS]
        for word in words:
            book.put(word)
        self.assertEqual(book.words(), sorted(words))

    def test_taken_out_and_put_in_again(self):
        book = book_of("ab", "cd", "ef")
        book.drop("cd")
        self.assertEqual(content(book), [("ab", 0), ("ef", 2)])
        self.assertIs(book.has("cd"), False)
        book.put("cd", 9)
        self.assertEqual(content(book), [("ab", 0), ("cd", 9), ("ef", 2)])
        book.drop("cd")
        book.put("cd")
        self.assertEqual(book.worth("cd"), 0)

    def test_three_hundred_words(self):
        words = [a + b for a in LETTERS for b in LETTERS][:300]
        book = Book()
        for worth, word in enumerate(reversed(words)):
            book.put(word, worth)
        self.assertEqual(book.words(), words)
        self.assertEqual([book.worth(word) for word in words], list(range(299, -1, -1)))

    def test_no_word_is_refused_whatever_it_is(self):
        for thing in NO_WORDS:
            for book in (Book(), book_of("ab", "abc", "az")):
                kept = content(book)
                self.refused(NoWord, thing, book.put)
                self.refused(NoWord, thing, book.put, 5)
                self.refused(NoWord, thing, book.drop)
                self.refused(NoWord, thing, book.worth)
                self.assertEqual(content(book), kept)

    def test_twice(self):
        book = book_of("xy", "ab", "cd")
        for word in ("xy", "ab", "cd"):
            self.refused(Twice, word, book.put)
            self.refused(Twice, word, book.put, 77)
        self.assertEqual(content(book), [("ab", 1), ("cd", 2), ("xy", 0)])

    def test_not_there(self):
        book = book_of("ab", "abc")
        for word in ("ac", "ba", "abcd", "bc", "abcdefghi"):
            self.refused(NotThere, word, book.drop)
            self.refused(NotThere, word, book.worth)
        self.assertEqual(content(book), [("ab", 0), ("abc", 1)])
        book.drop("ab")
        self.refused(NotThere, "ab", book.drop)
        self.refused(NotThere, "ab", book.worth)
        self.assertEqual(content(book), [("abc", 1)])
        self.refused(NotThere, "ab", Book().drop)
        self.refused(NotThere, "ab", Book().worth)

    def test_asking_puts_nothing_in(self):
        book = book_of("ab")
        book.has("cd")
        book.fitting("..")
        self.assertEqual(book.words(), ["ab"])

    def test_two_books_know_nothing_of_each_other(self):
        first = book_of("ab", "cd")
        second = Book()
        self.assertEqual(second.words(), [])
        second.put("ab", 50)
        second.put("ef")
        first.drop("cd")
        self.assertEqual(content(first), [("ab", 0)])
        self.assertEqual(content(second), [("ab", 50), ("ef", 0)])

    def test_a_told_list_is_the_askers_own(self):
        book = book_of("cd", "ab")
        for ask in (book.words, lambda: book.fitting("..")):
            told = ask()
            self.assertIs(type(told), list)
            self.assertIsNot(told, ask())
            told.clear()
            told.append("zz")
            self.assertEqual(ask(), ["ab", "cd"])
            self.assertEqual(content(book), [("ab", 1), ("cd", 0)])
        words = book.words()
        fitting = book.fitting("..")
        book.put("aa")
        book.drop("cd")
        self.assertEqual(words, ["ab", "cd"])
        self.assertEqual(fitting, ["ab", "cd"])

    def test_has_of_any_text(self):
        book = book_of("ab", "abc", "z" * 9)
        for text in ("ab", "abc", "z" * 9):
            self.assertIs(book.has(text), True)
        for text in (
            "", "a", "b", "ba", "abcd", "z" * 8, "z" * 10, "AB", "a.", "..", " ab", "ab ", "a\nb", "12", "~" * 300,
        ):
            self.assertIs(book.has(text), False)
            self.assertIs(Book().has(text), False)


class Fitting(unittest.TestCase):
    def setUp(self):
        self.book = book_of("tan", "tin", "ten", "net", "at", "ta", "tents", "tenth", "z" * 9)

    def test_letters_and_free_places(self):
        self.assertEqual(self.book.fitting("t.n"), ["tan", "ten", "tin"])
        self.assertEqual(self.book.fitting("..t"), ["net"])
        self.assertEqual(self.book.fitting("t.."), ["tan", "ten", "tin"])
        self.assertEqual(self.book.fitting(".e."), ["net", "ten"])
        self.assertEqual(self.book.fitting("tent."), ["tenth", "tents"])
        self.assertEqual(self.book.fitting("ten"), ["ten"])
        self.assertEqual(self.book.fitting("tex"), [])
        self.assertEqual(self.book.fitting("x.."), [])
        self.assertEqual(self.book.fitting("..x"), [])
        self.assertEqual(self.book.fitting("........z"), ["z" * 9])

    def test_free_places_alone(self):
        self.assertEqual(self.book.fitting(".."), ["at", "ta"])
        self.assertEqual(self.book.fitting("..."), ["net", "tan", "ten", "tin"])
        self.assertEqual(self.book.fitting("....."), ["tenth", "tents"])
        self.assertEqual(self.book.fitting("." * 9), ["z" * 9])

    def test_other_lengths(self):
        for text in ("", ".", "t", "....", "tent", "te..", "." * 6, "." * 10, "z" * 10, "z" * 8, "." * 300):
            self.assertEqual(self.book.fitting(text), [])
            self.assertEqual(Book().fitting(text), [])

    def test_behind_a_word_put_in_and_behind_one_taken_out(self):
        self.book.put("ton")
        self.assertEqual(self.book.fitting("t.n"), ["tan", "ten", "tin", "ton"])
        self.book.drop("ten")
        self.assertEqual(self.book.fitting("t.n"), ["tan", "tin", "ton"])
        self.book.put("ten", 4)
        self.assertEqual(self.book.fitting("t.n"), ["tan", "ten", "tin", "ton"])
        self.book.drop("net")
        self.assertEqual(self.book.fitting("n.."), [])

    def test_every_small_pattern(self):
        words = ["".join(signs) for length in (2, 3, 4) for signs in itertools.product("abc", repeat=length)]
        book = book_of(*words[::-2])
        for length in range(6):
            for signs in itertools.product("abcd.", repeat=length):
                text = "".join(signs)
                # To a regular expression, too, a point is any sign and a letter is itself.
                told = sorted(word for word in words[::-2] if re.fullmatch(text, word))
                self.assertEqual(book.fitting(text), told, text)


class Reading(unittest.TestCase):
    def refused(self, text, line):
        with self.assertRaises(CrossError) as caught:
            read_book(text)
        self.assertIs(type(caught.exception), NoLine, text)
        self.assertIs(type(caught.exception.line), int)
        self.assertEqual(caught.exception.line, line, text)

    def test_the_text_without_signs(self):
        book = read_book("")
        self.assertIs(type(book), Book)
        self.assertEqual(book.words(), [])

    def test_one_line(self):
        self.assertEqual(content(read_book("ab 5")), [("ab", 5)])
        self.assertEqual(content(read_book("abcdefghi 0")), [("abcdefghi", 0)])
        self.assertEqual(content(read_book("zz 10")), [("zz", 10)])
        self.assertEqual(content(read_book("zz 9876543210")), [("zz", 9876543210)])
        self.assertIs(type(read_book("ab 5").worth("ab")), int)

    def test_many_lines(self):
        book = read_book("xy 12\nab 0\nabc 7\ncd 12")
        self.assertIs(type(book), Book)
        self.assertEqual(content(book), [("ab", 0), ("abc", 7), ("cd", 12), ("xy", 12)])

    def test_worths_of_sixty_figures(self):
        self.assertEqual(content(read_book("ab " + "9" * 60)), [("ab", GREATEST)])
        self.assertEqual(content(read_book("ab 1" + "0" * 59)), [("ab", 10 ** 59)])
        for length in range(1, 61):
            self.assertEqual(read_book("ab " + "7" * length).worth("ab"), int("7" * length))

    def test_the_greatest_book(self):
        words = ["abcdefg" + a + b for a in LETTERS for b in LETTERS][:300]
        text = "\n".join(word + " " + str(GREATEST - number) for number, word in enumerate(words))
        self.assertEqual(content(read_book(text)), [(word, GREATEST - number) for number, word in enumerate(words)])
        self.refused(text + "\n" + words[299] + " 1", 300)
        self.refused(text + "\nxy 1 ", 300)

    def test_worths_that_are_none(self):
        for worth in (
            "9" * 61, "1" + "0" * 60, "0" * 61, "1" * 290, "00", "01", "007", "0" * 60, "-1", "+1", "-0", "1-", "1.0",
            "1.", ".", "1_0", "1,0", "0x1", "1e3", "a", "1a", "a1", "ab", "", "one", "\u0661", "\u00b2", "1\t", "\t1",
            "1\r", "'1'", "1/1", ":", "/",
        ):
            self.refused("ab " + worth, 0)
            self.refused("xy 1\nab " + worth, 1)
            self.refused("xy 1\nab " + worth + "\ncd 1", 1)

    def test_blanks(self):
        for line in (
            "ab", "ab ", " ab", " ab 1", "ab  1", "ab 1 ", "ab 1  ", "  ab 1", "a b 1", "ab 1 2", "ab 1 cd 2", " ",
            "  ", "1", " 1", "ab1", "ab\t1", "ab,1", "1 ab", "5 5",
        ):
            self.refused(line, 0)
            self.refused("xy 1\n" + line, 1)
            self.refused("xy 1\nzz 1\n" + line + "\nuv 1", 2)

    def test_lines_without_signs(self):
        self.refused("\n", 0)
        self.refused("\n\n", 0)
        self.refused("\nab 1", 0)
        self.refused("ab 1\n", 1)
        self.refused("ab 1\n\ncd 1", 1)
        self.refused("ab 1\ncd 1\n", 2)
        self.refused("ab 1\ncd 1\n\n", 2)

    def test_other_row_ends_are_no_line_feeds(self):
        for end in ("\r", "\r\n", "\v", "\f", "\x1c", "\x85", "\u2028"):
            self.refused("ab 1" + end + "cd 2", 0)

    def test_words_that_are_none(self):
        for word in [thing for thing in NO_WORDS if isinstance(thing, str) and "\n" not in thing]:
            self.refused(word + " 1", 0)
            self.refused("xy 1\n" + word + " 1\nuv 1", 1)

    def test_a_word_told_twice(self):
        self.refused("ab 1\nab 1", 1)
        self.refused("ab 1\nab 2", 1)
        self.refused("ab 1\ncd 1\nab 2", 2)
        self.refused("ab 1\ncd 1\nef 1\ncd 0\nab 2", 3)

    def test_of_several_faults_the_first(self):
        self.refused("ab 1\nab 2\nx 1", 1)
        self.refused("ab 1\nx 1\nab 2", 1)
        self.refused("ab 1\nab 01\nab 2", 1)
        self.refused("x 1\nab\n\nAB 1", 0)
        self.refused("ab 1\ncd 1\n\ncd 1\n", 2)
        self.refused("ab 1\ncd 1\ncd 1\n\n", 2)
        self.refused("ab 1\ncd 1 \ncd 1", 1)

    def test_what_is_no_text(self):
        for thing in (
            None, 0, 5, -1, True, 1.5, b"", b"ab 1", [], ["ab 1"], (), ("ab 1",), {}, {"ab": 1}, Book(), Odd(),
        ):
            self.refused(thing, 0)

    def test_books_of_one_text_know_nothing_of_each_other(self):
        first = read_book("ab 1\ncd 2")
        second = read_book("ab 1\ncd 2")
        first.drop("ab")
        first.put("ef", 3)
        self.assertEqual(content(first), [("cd", 2), ("ef", 3)])
        self.assertEqual(content(second), [("ab", 1), ("cd", 2)])
        read_book("").put("ab")
        self.assertEqual(read_book("").words(), [])


if __name__ == "__main__":
    unittest.main()
