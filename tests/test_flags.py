"""Points 4 and 5: letters, substitutes, flags, words."""

import sys
import unittest

from flaglocker.flags import FLAGS, is_flag, is_word, rank_of

LETTERS = [
    "a", "b", "c", "d", "e", "f", "g", "h", "i", "j", "k", "l",
    "m", "n", "o", "p", "q", "r", "s", "t", "u", "v", "w",
]
SUBSTITUTES = ["1", "2", "3", "4"]
NO_LETTERS = ["x", "y", "z", "A", "W", "X", "0", "1", "4", "5", " ", "\n", "\t", "-", "\u00e4", "\u0430"]


class Flags(unittest.TestCase):
    def test_flags_sign_by_sign(self):
        self.assertIs(type(FLAGS), str)
        self.assertEqual(list(FLAGS), LETTERS + SUBSTITUTES)
        self.assertEqual(len(FLAGS), 27)

    def test_rank_of_each_letter(self):
        self.assertEqual([rank_of(letter) for letter in LETTERS], list(range(23)))
        for letter in LETTERS:
            self.assertIs(type(rank_of(letter)), int)

    def test_rank_at_both_ends(self):
        self.assertEqual((rank_of("a"), rank_of("w")), (0, 22))

    def test_each_flag_is_a_flag(self):
        for flag in LETTERS + SUBSTITUTES:
            with self.subTest(flag=flag):
                self.assertIs(is_flag(flag), True)

    def test_no_flags(self):
        no_signs = [""]
        two_signs = ["ab", "aa", "vw", "w1", "12", "a ", " a", "a\n", "\na", "1\n"]
        one_sign = ["x", "y", "z", "A", "B", "W", "X", "Z", "0", "5", "9", " ", "\n", "\t", "\r", "-", "?"]
        longer = ["abc", FLAGS, "abcdefghijklmnopqrstuvw", "1234"]
        for text in no_signs + two_signs + one_sign + longer:
            with self.subTest(text=text):
                self.assertIs(is_flag(text), False)

    def test_of_all_signs_just_these_are_flags(self):
        found = [chr(number) for number in range(sys.maxunicode + 1) if is_flag(chr(number))]
        self.assertEqual(sorted(found), sorted(LETTERS + SUBSTITUTES))


class Words(unittest.TestCase):
    def test_each_letter_is_a_word(self):
        for letter in LETTERS:
            with self.subTest(letter=letter):
                self.assertIs(is_word(letter), True)

    def test_one_to_seven_letters(self):
        for start in range(0, 17):
            for many in range(1, 8):
                text = "".join(LETTERS[start:start + many])
                with self.subTest(text=text):
                    self.assertIs(is_word(text), True)

    def test_a_letter_may_come_again(self):
        for text in ("aa", "wwwwwww", "abab", "cba"):
            with self.subTest(text=text):
                self.assertIs(is_word(text), True)

    def test_none_and_more_than_seven(self):
        for text in ("", "abcdefgh", "aaaaaaaa", "a" * 9, "a" * 9000):
            with self.subTest(text=text[:9]):
                self.assertIs(is_word(text), False)

    def test_one_sign_that_is_no_letter(self):
        for sign in NO_LETTERS:
            for word in ("", "a", "ab", "abcdef"):
                for at in range(len(word) + 1):
                    text = word[:at] + sign + word[at:]
                    with self.subTest(text=text):
                        self.assertIs(is_word(text), False)

    def test_seven_letters_with_a_line_end(self):
        for text in ("abcdefg\n", "abcdefg ", "\nabcdefg", "abcdef\n"):
            with self.subTest(text=text):
                self.assertIs(is_word(text), False)

    def test_of_all_signs_just_the_letters_are_words(self):
        found = [chr(number) for number in range(sys.maxunicode + 1) if is_word(chr(number))]
        self.assertEqual(found, LETTERS)


if __name__ == "__main__":
    unittest.main()
