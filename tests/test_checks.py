"""Points 25 and 26, and of points 2 and 3 what concerns checks."""

import itertools
import random
import unittest

from counting import LETTERS, checked_by_count, words_of
from flaglocker.checks import check_of, hidden_letter, is_checked


def words_by_chance(seed, many, fewest, longest):
    chance = random.Random(seed)
    return ["".join(chance.choices(LETTERS, k=chance.randrange(fewest, longest + 1))) for _ in range(many)]


def checked_words(longest):
    """All checked words of two letters, and for more letters those that some words by chance lead to."""
    words = [word for word in words_of(LETTERS, 2) if checked_by_count(word)]
    for start in words_by_chance(25, 150, 2, longest - 1):
        words += [start + letter for letter in LETTERS if checked_by_count(start + letter)]
    return words


class Checked(unittest.TestCase):
    def test_words_of_one_letter_are_not(self):
        for letter in LETTERS:
            self.assertIs(is_checked(letter), False, letter)

    def test_all_words_of_two_and_three_letters(self):
        for many in (2, 3):
            for signs in itertools.product(LETTERS, repeat=many):
                word = "".join(signs)
                self.assertIs(is_checked(word), checked_by_count(word), word)

    def test_words_of_up_to_seven_letters(self):
        for word in words_by_chance(26, 3000, 2, 7) + checked_words(7):
            self.assertIs(is_checked(word), checked_by_count(word), word)

    def test_some_words(self):
        for word in ("aa", "aaaaaaa", "bl", "lg", "wwn"):
            self.assertIs(is_checked(word), checked_by_count(word), word)
        self.assertIs(is_checked("aa"), True)
        self.assertIs(is_checked("bl"), True)
        self.assertIs(is_checked("lb"), False)
        self.assertIs(is_checked("ab"), False)
        self.assertIs(is_checked("bal"), False)
        self.assertIs(is_checked("aaaaaaa"), True)
        self.assertIs(is_checked("aaaaaab"), False)

    def test_other_texts_are_not(self):
        for text in ("", "a", "aaaaaaaa", "ax", "x", "AA", "a1", "a a", "aa "):
            self.assertIs(is_checked(text), False, text)

    def test_no_two_differ_at_one_place_alone(self):
        for word in checked_words(7):
            for at in range(len(word)):
                for letter in LETTERS:
                    if letter != word[at]:
                        self.assertIs(is_checked(word[:at] + letter + word[at + 1:]), False, (word, at, letter))

    def test_two_unlike_neighbours_exchanged(self):
        exchanged = 0
        for word in checked_words(7):
            for at in range(len(word) - 1):
                if word[at] != word[at + 1]:
                    exchanged += 1
                    other = word[:at] + word[at + 1] + word[at] + word[at + 2:]
                    self.assertIs(is_checked(other), False, (word, at))
        self.assertGreater(exchanged, 300)

    def test_checked_words_of_each_length(self):
        self.assertEqual({len(word) for word in checked_words(7)}, {2, 3, 4, 5, 6, 7})
        for word in checked_words(7):
            self.assertIs(is_checked(word), True, word)


class CheckLetter(unittest.TestCase):
    def check_letter(self, word):
        letter = check_of(word)
        self.assertIs(type(letter), str)
        self.assertEqual([some for some in LETTERS if is_checked(word + some)], [letter], word)
        self.assertEqual([some for some in LETTERS if checked_by_count(word + some)], [letter], word)

    def test_all_words_of_one_and_two_letters(self):
        for word in words_of(LETTERS, 2):
            self.check_letter(word)

    def test_words_of_up_to_six_letters(self):
        for word in words_by_chance(27, 500, 3, 6) + ["aaaaaa", "wwwwww", "abcdef", "awawaw"]:
            self.check_letter(word)

    def test_some_words(self):
        self.assertEqual(check_of("a"), "a")
        self.assertEqual(check_of("b"), "l")
        self.assertEqual(check_of("aaaaaa"), "a")
        self.assertEqual(check_of("ab"), "h")


class Hidden(unittest.TestCase):
    def check_hidden(self, word, at):
        letters = list(word[:at]) + [None] + list(word[at + 1:])
        before = list(letters)
        told = hidden_letter(letters)
        self.assertIs(type(told), str)
        self.assertEqual(told, word[at], before)
        self.assertEqual(letters, before)

    def test_each_place_of_each_checked_word(self):
        for word in checked_words(7):
            for at in range(len(word)):
                self.check_hidden(word, at)

    def test_each_letter_at_each_place(self):
        for many in range(2, 8):
            for at in range(many):
                told = set()
                for letter in LETTERS:
                    other = 1 if at == 0 else 0
                    letters = ["c"] * many
                    letters[at], letters[other] = None, letter
                    found = hidden_letter(letters)
                    letters[at] = found
                    self.assertTrue(checked_by_count("".join(letters)), letters)
                    told.add(found)
                self.assertEqual(told, set(LETTERS))

    def test_the_check_letter_is_one_that_is_hidden(self):
        for word in words_by_chance(28, 200, 1, 6):
            self.assertEqual(hidden_letter(list(word) + [None]), check_of(word))

    def test_some_lists(self):
        self.assertEqual(hidden_letter([None, "a"]), "a")
        self.assertEqual(hidden_letter(["b", None]), "l")
        self.assertEqual(hidden_letter([None, "l"]), "b")
        self.assertEqual(hidden_letter(["a", "b", None]), "h")
        self.assertEqual(hidden_letter(["a"] * 6 + [None]), "a")


if __name__ == "__main__":
    unittest.main()
