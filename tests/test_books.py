"""Points 21 and 24, and of point 2 what concerns books."""

import copy
import string
import unittest

from counting import LETTERS, book_of
from flaglocker.books import look_at, text_said
from flaglocker.errors import NoBook, NoWord, TowerError

NO_WORDS = ("", "abcdefg", "aaaaaaaaa", "x", "y", "z", "abx", "xab", "A", "aB", "1", "a1", " ", "a b", "ab ", "a\n",
            "-", "\u00e4", "\u0430")
NO_MEANINGS = ("", " ", "  ", "a b c d e f", "a b c d e f g", "a" * 11, "b " + "a" * 11, "a" * 11 + " b", "A", "Go",
               "gO", "go North", "go  north", " go", "go ", "go north ", "go\tnorth", "go\nnorth", "go\n", "go-north",
               "go1", "1", "go, north", "\u00e4", "a\u00a0b", "\u0430")


def pairs_of_places():
    """Books of some lengths, with a place at the first, in the midst or just ahead of the last, and one behind it."""
    for many in (2, 3, 7, 60):
        for ahead in sorted({0, many // 2 - 1, many - 2}):
            for at in sorted({ahead + 1, (ahead + many) // 2, many - 1}):
                yield many, ahead, at


class BookCase(unittest.TestCase):
    def check_book(self, book):
        before = copy.deepcopy(book)
        self.assertIs(look_at(book), None, before)
        self.assertEqual(book, before)

    def check_refused(self, book, at):
        before = copy.deepcopy(book)
        with self.assertRaises(NoBook, msg=before) as refusal:
            look_at(book)
        self.assertIs(type(refusal.exception), NoBook)
        self.assertIsInstance(refusal.exception, TowerError)
        self.assertIs(type(refusal.exception.at), int)
        self.assertEqual(refusal.exception.at, at, before)
        self.assertEqual(book, before)


class Books(BookCase):
    def test_one_tuple(self):
        self.check_book([("a", "go")])
        self.check_book([("abcdef", "a b c d e")])
        self.check_book([("wwwwww", "abcdefghij klmnopqrst uvwxyz z zzzzzzzzzz")])

    def test_one_to_sixty_tuples(self):
        for many in range(1, 61):
            self.check_book(book_of(many))

    def test_words_of_one_to_six_letters(self):
        for letter in LETTERS:
            for many in range(1, 7):
                self.check_book([(letter * many, "go")])

    def test_meanings_of_one_to_five_terms_of_one_to_ten_letters(self):
        for letter in string.ascii_lowercase:
            for many in range(1, 6):
                for long in range(1, 11):
                    self.check_book([("a", " ".join([letter * long] * many))])

    def test_words_and_meanings_that_are_nearly_alike(self):
        self.check_book([("a", "go"), ("aa", "go go"), ("aaa", "g o"), ("ab", "og"), ("ba", "goo")])

    def test_a_word_that_is_a_meaning_too(self):
        self.check_book([("a", "b"), ("b", "a"), ("c", "c")])


class NoBooks(BookCase):
    def check_at_each(self, word, meaning):
        """A tuple that can't stand, as the only, the first, a middle and the last one."""
        self.check_refused([(word, meaning)], 0)
        for many in (2, 3, 7, 60):
            for at in sorted({0, 1, many // 2, many - 1}):
                book = book_of(many)
                book[at] = (word, meaning)
                self.check_refused(book, at)

    def test_none_at_all(self):
        self.check_refused([], 0)

    def test_more_than_sixty(self):
        for many in (61, 62, 100, 300):
            self.check_refused(book_of(many), 60)

    def test_words_that_are_none(self):
        for word in NO_WORDS:
            self.check_at_each(word, "zz zz")

    def test_meanings_that_are_none(self):
        for meaning in NO_MEANINGS:
            self.check_at_each("wwwwww", meaning)

    def test_both_are_none(self):
        self.check_at_each("abcdefg", "go  north")

    def test_a_word_twice(self):
        for many, ahead, at in pairs_of_places():
            book = book_of(many)
            book[at] = (book[ahead][0], book[at][1])
            self.check_refused(book, at)

    def test_a_meaning_twice(self):
        for many, ahead, at in pairs_of_places():
            book = book_of(many)
            book[at] = (book[at][0], book[ahead][1])
            self.check_refused(book, at)

    def test_a_tuple_twice(self):
        self.check_refused([("a", "go"), ("a", "go")], 1)
        self.check_refused(book_of(30) + book_of(30), 30)

    def test_the_first_of_several(self):
        self.check_refused([("a", "go"), ("b", "Go"), ("x", "on")], 1)
        self.check_refused([("a", "go"), ("x", "on"), ("b", "Go")], 1)
        self.check_refused([("a", "go"), ("b", "on"), ("b", "off"), ("a", "go")], 2)
        self.check_refused([("x", "go"), ("x", "go")], 0)

    def test_a_fault_ahead_of_the_sixty_first(self):
        for at in (0, 30, 59):
            book = book_of(61)
            book[at] = ("x", book[at][1])
            self.check_refused(book, at)

    def test_a_fault_behind_the_sixtieth(self):
        for at in (60, 61):
            book = book_of(62)
            book[at] = ("x", "Go")
            self.check_refused(book, 60)


class Said(unittest.TestCase):
    def check_said(self, book, words, text):
        before = copy.deepcopy((book, words))
        told = text_said(book, words)
        self.assertIs(type(told), str)
        self.assertEqual(told, text, before)
        self.assertEqual((book, words), before)

    def check_refused(self, book, words, at):
        before = copy.deepcopy((book, words))
        with self.assertRaises(NoWord, msg=before) as refusal:
            text_said(book, words)
        self.assertIs(type(refusal.exception), NoWord)
        self.assertIsInstance(refusal.exception, TowerError)
        self.assertIs(type(refusal.exception.at), int)
        self.assertEqual(refusal.exception.at, at, before)
        self.assertEqual((book, words), before)

    def test_one_word(self):
        self.check_said([("a", "go")], ["a"], "go")
        for word, meaning in book_of(60):
            self.check_said(book_of(60), [word], meaning)

    def test_several_words(self):
        book = [("a", "go"), ("b", "go north"), ("ab", "x y z")]
        self.check_said(book, ["a", "b"], "go go north")
        self.check_said(book, ["b", "a"], "go north go")
        self.check_said(book, ["ab", "b", "a"], "x y z go north go")

    def test_all_words_of_a_book(self):
        book = book_of(60)
        self.check_said(book, [word for word, meaning in book], " ".join(meaning for word, meaning in book))

    def test_the_same_word_twice(self):
        book = [("a", "go"), ("b", "go north")]
        self.check_said(book, ["a", "a"], "go go")
        self.check_said(book, ["b", "a", "b"], "go north go go north")
        self.check_said(book, ["b"] * 300, " ".join(["go north"] * 300))

    def test_none(self):
        self.check_refused([("a", "go")], [], 0)
        self.check_refused(book_of(60), [], 0)

    def test_no_word_at_the_first_a_middle_and_the_last(self):
        book = book_of(60)
        for other in ("c", "", "x", "A", "aa ", "go", book[1][1], book[0][0] + "a", book[5][0][:-1]):
            self.check_refused(book, [other], 0)
            for many in (2, 3, 7, 60, 300):
                for at in sorted({0, many // 2, many - 1}):
                    words = [book[number % 60][0] for number in range(many)]
                    words[at] = other
                    self.check_refused(book, words, at)

    def test_the_first_of_several(self):
        book = [("a", "go"), ("b", "on")]
        self.check_refused(book, ["a", "c", "d"], 1)
        self.check_refused(book, ["a", "b", "c", "a", "c"], 2)
        self.check_refused(book, ["c", "c"], 0)

    def test_words_stand_without_check_letters(self):
        self.check_refused([("b", "go"), ("c", "on")], ["b", "bw"], 1)


if __name__ == "__main__":
    unittest.main()
