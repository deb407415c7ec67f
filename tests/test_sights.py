"""Point 27, and of points 2 and 3 what concerns sights."""

import copy
import itertools
import random
import unittest

from counting import FLAGS, LETTERS, book_of, checked_from, choices_for, hidden_in, hoist_by_chance
from counting import words_of
from flaglocker.sights import fits_sight, read_in


def shows(hoist, sight):
    return len(hoist) == len(sight) and all(seen in (None, flag) for seen, flag in zip(sight, hoist, strict=True))


def shown_by_some(sight, word):
    """Whether some hoist that reads to the word shows so, found by going through all of them."""
    return any(shows(hoist, sight) for hoist in itertools.product(*choices_for(word)))


class SightCase(unittest.TestCase):
    def check_fits(self, sight, word, due):
        before = copy.deepcopy(sight)
        self.assertIs(fits_sight(sight, word), due, (sight, word))
        self.assertEqual(sight, before)

    def check_read(self, book, sight, due):
        before = copy.deepcopy((book, sight))
        told = read_in(book, sight)
        self.assertIs(type(told), list)
        self.assertEqual([type(number) for number in told], [int] * len(told))
        self.assertEqual(told, due, before)
        self.assertEqual((book, sight), before)


class Fits(SightCase):
    def test_letters_seen(self):
        self.check_fits(["a", "b"], "ab", True)
        self.check_fits(["a", "b"], "ac", False)
        self.check_fits(["a", "b"], "cb", False)
        self.check_fits(["a", "b"], "ba", False)
        self.check_fits(list("abcdefg"), "abcdefg", True)
        self.check_fits(list("abcdefg"), "abcdefw", False)
        self.check_fits(list("abcdefg"), "wbcdefg", False)

    def test_each_letter_at_each_place(self):
        for place in range(7):
            for letter, other in itertools.product(LETTERS, LETTERS):
                sight = [None] * 7
                sight[place] = letter
                self.check_fits(sight, "a" * place + other + "a" * (6 - place), letter == other)

    def test_all_hidden(self):
        for many in range(2, 8):
            for word in ("a" * many, "abcdefg"[:many], "wvutsrq"[:many]):
                self.check_fits([None] * many, word, True)

    def test_some_hidden(self):
        self.check_fits(["a", None, "c"], "abc", True)
        self.check_fits(["a", None, "c"], "awc", True)
        self.check_fits(["a", None, "c"], "abw", False)
        self.check_fits(["a", None, "c"], "wbc", False)
        self.check_fits([None, "b", None], "abc", True)
        self.check_fits([None, "b", None], "acb", False)

    def test_a_substitute_below_its_own_place(self):
        self.check_fits(["a", "1"], "aa", True)
        self.check_fits(["a", "1"], "ab", False)
        self.check_fits([None, "1"], "aa", True)
        self.check_fits([None, "1"], "ab", False)
        self.check_fits(["a", "b", "2"], "abb", True)
        self.check_fits(["a", "b", "2"], "aba", False)
        self.check_fits(["a", "b", "1"], "aba", True)
        self.check_fits([None, None, None, None, None, None, "4"], "abcdefd", True)
        self.check_fits([None, None, None, None, None, None, "4"], "abcdefe", False)

    def test_a_substitute_at_its_own_place(self):
        for place in range(1, 5):
            for many in range(max(2, place), 8):
                sight = [None] * many
                sight[place - 1] = str(place)
                self.check_fits(sight, "a" * many, False)

    def test_a_substitute_above_its_own_place(self):
        for place in range(1, 4):
            for flag in "1234"[place:]:
                for many in range(max(2, int(flag)), 8):
                    sight = [None] * many
                    sight[place - 1] = flag
                    self.check_fits(sight, "a" * many, False)

    def test_a_substitute_whose_own_place_is_not_there(self):
        self.check_fits(["a", "3"], "aa", False)
        self.check_fits(["a", "4"], "aa", False)
        self.check_fits([None, None, "4"], "aaa", False)

    def test_each_substitute_at_each_place(self):
        for many in range(2, 8):
            for place, flag in itertools.product(range(1, many + 1), "1234"):
                sight = [None] * many
                sight[place - 1] = flag
                self.check_fits(sight, "b" * many, int(flag) < place)
                alone = "b" * (place - 1) + "c" + "b" * (many - place)
                self.check_fits(sight, alone, False)

    def test_a_substitute_for_a_place_where_a_substitute_is_seen(self):
        self.check_fits(["a", "1", "2"], "aaa", True)
        self.check_fits(["a", "1", "2"], "aab", False)
        self.check_fits([None, "1", "2", "3", "4"], "ccccc", True)
        self.check_fits([None, "1", "2", "3", "4"], "ccccd", False)

    def test_a_substitute_for_a_hidden_place(self):
        self.check_fits([None, "b", "1"], "aba", True)
        self.check_fits([None, "b", "1"], "cbc", True)
        self.check_fits([None, "b", "1"], "bbb", True)
        self.check_fits([None, "b", "1"], "abc", False)

    def test_another_length(self):
        for many, other in itertools.product(range(2, 8), range(1, 8)):
            self.check_fits([None] * many, "a" * other, many == other)
            self.check_fits(["a"] * many, "a" * other, many == other)
            self.check_fits(["a"] + ["1"] * (many - 1), "a" * other, many == other)

    def test_all_sights_of_two_and_three(self):
        for many in (2, 3):
            for sight in itertools.product([None] + list("abc1234"), repeat=many):
                for word in words_of("abc", 3):
                    self.check_fits(list(sight), word, shown_by_some(sight, word))

    def test_all_sights_of_four(self):
        for sight in itertools.product([None] + list("a1234"), repeat=4):
            for signs in itertools.product("ab", repeat=4):
                self.check_fits(list(sight), "".join(signs), shown_by_some(sight, "".join(signs)))

    def test_longer_ones(self):
        chance = random.Random(27)
        found = {True: 0, False: 0}
        for _ in range(4000):
            many = chance.randrange(5, 8)
            word = "".join(chance.choices("abc", k=many))
            sight = hidden_in(chance, hoist_by_chance(chance, word))
            if chance.randrange(2) == 0:
                sight[chance.randrange(many)] = chance.choice("abc1234")
            due = shown_by_some(sight, word)
            found[due] += 1
            self.check_fits(sight, word, due)
        self.assertTrue(min(found.values()) > 500, found)


class Read(SightCase):
    BOOK = [("b", "go"), ("ab", "north"), ("aa", "wait"), ("ba", "go north"), ("bbb", "stop")]

    def test_the_check_letters(self):
        """The words that the other tests of this class reckon with."""
        self.assertEqual([checked_from(word) for word, _ in self.BOOK], ["bl", "abh", "aaa", "bap", "bbbk"])

    def test_all_seen(self):
        self.check_read(self.BOOK, ["b", "l"], [0])
        self.check_read(self.BOOK, ["a", "b", "h"], [1])
        self.check_read(self.BOOK, ["a", "a", "a"], [2])
        self.check_read(self.BOOK, ["b", "b", "b", "k"], [4])

    def test_rising_numbers(self):
        self.check_read(self.BOOK, [None, None, None], [1, 2, 3])
        self.check_read(self.BOOK, ["a", None, None], [1, 2])
        self.check_read(self.BOOK, [None, "a", None], [2, 3])
        self.check_read(self.BOOK, [None, None, "p"], [3])
        self.check_read(list(reversed(self.BOOK)), [None, None, None], [1, 2, 3])
        self.check_read(list(reversed(self.BOOK)), [None, "a", None], [1, 2])

    def test_substitutes_seen(self):
        self.check_read(self.BOOK, [None, "1", None], [2])
        self.check_read(self.BOOK, ["a", "1", "2"], [2])
        self.check_read(self.BOOK, [None, None, "2", None], [4])
        self.check_read(self.BOOK, [None, None, None, "3"], [])

    def test_words_stand_with_their_check_letters(self):
        self.check_read(self.BOOK, ["a", "b"], [])
        self.check_read(self.BOOK, [None, None], [0])
        self.check_read(self.BOOK, ["b", "a"], [])
        self.check_read(self.BOOK, ["b", "b", "b"], [])
        self.check_read(self.BOOK, ["a", "b", "a"], [])

    def test_a_substitute_for_a_check_letter(self):
        self.check_read([("a", "go"), ("b", "on")], [None, "1"], [0])
        self.check_read([("aaaaaa", "go")], ["a", "1", "2", "3", "4", "4", "1"], [0])
        self.check_read([("aaaaaa", "go")], [None, None, None, None, None, None, "1"], [0])

    def test_none(self):
        self.check_read(self.BOOK, ["w", None, None], [])
        self.check_read(self.BOOK, [None] * 5, [])
        self.check_read(self.BOOK, [None] * 7, [])

    def test_sights_that_no_hoist_shows(self):
        book = [("a", "go"), ("aa", "on"), ("aaa", "off"), ("aaaaaa", "wait")]
        for sight in (["1", "a"], ["1", None], [None, "2"], ["a", "4"], [None, "3", "a"], ["4", None, None, None],
                      [None, None, "3", None], ["1"] * 7, [None, None, None, "4", None, None, None]):
            self.check_read(book, sight, [])

    def test_the_shortest_and_the_longest_words(self):
        book = [(letter, "go " + letter) for letter in LETTERS] + [(letter * 6, "no " + letter) for letter in LETTERS]
        self.check_read(book, [None, None], list(range(23)))
        self.check_read(book, [None] * 7, list(range(23, 46)))
        self.check_read(book, [None, "1", "2", "3", "4", "1", None], list(range(23, 46)))
        for at, letter in enumerate(LETTERS):
            self.check_read(book, [letter, None], [at])
            self.check_read(book, [None, None, letter, None, None, None, None], [23 + at])

    def test_a_book_of_sixty(self):
        chance = random.Random(28)
        book = book_of(60)
        words = [checked_from(word) for word, _ in book]
        for word in words + [None] * 200:
            hoist = chance.choices(FLAGS, k=chance.randrange(2, 8)) if word is None else hoist_by_chance(chance, word)
            sight = hidden_in(chance, hoist)
            self.check_read(book, sight, [at for at, other in enumerate(words) if shown_by_some(sight, other)])

    def test_what_hangs_is_always_among_what_is_read(self):
        chance = random.Random(29)
        words = list(words_of("ab", 6))
        for _ in range(300):
            book = [(word, "go " + "abcdefghij"[at]) for at, word in enumerate(chance.sample(words, 10))]
            number = chance.randrange(10)
            sight = hidden_in(chance, hoist_by_chance(chance, checked_from(book[number][0])))
            self.assertIn(number, read_in(book, sight))

    def test_what_is_told_is_the_askers_own(self):
        told = read_in(self.BOOK, [None, None, None])
        told.append(7)
        self.check_read(self.BOOK, [None, None, None], [1, 2, 3])


if __name__ == "__main__":
    unittest.main()
