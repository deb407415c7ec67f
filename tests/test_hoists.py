"""Point 6, and of points 2 and 3 what concerns hoists and their words."""

import itertools
import unittest

from counting import choices_for, place_read
from flaglocker.errors import NoHoist, TowerError
from flaglocker.flags import FLAGS, is_word
from flaglocker.hoists import is_hoist, read_of

LETTERS = "abcdefghijklmnopqrstuvw"


def hoists_for(word):
    """All lists of flags that hang one of its choices at each place of the word."""
    return [list(flags) for flags in itertools.product(*choices_for(word))]


class HoistCase(unittest.TestCase):
    def check_reads(self, flags, word):
        handed = list(flags)
        with self.subTest(flags=flags):
            self.assertIs(is_hoist(handed), True)
            read = read_of(handed)
            self.assertIs(type(read), str)
            self.assertEqual(read, word)
            self.assertEqual(handed, flags)

    def check_refused(self, flags):
        handed = list(flags)
        with self.subTest(flags=flags):
            self.assertIs(is_hoist(handed), False)
            with self.assertRaises(NoHoist) as taken:
                read_of(handed)
            self.assertIs(type(taken.exception), NoHoist)
            self.assertIsInstance(taken.exception, TowerError)
            self.assertEqual(handed, flags)


class Letters(HoistCase):
    def test_each_letter_alone(self):
        for letter in LETTERS:
            self.check_reads([letter], letter)

    def test_one_to_seven_letters(self):
        for start in range(17):
            for many in range(1, 8):
                word = LETTERS[start:start + many]
                self.check_reads(list(word), word)

    def test_letters_that_come_again(self):
        self.check_reads(["a", "a", "a"], "aaa")
        self.check_reads(["w", "a", "w"], "waw")

    def test_none_seven_eight(self):
        self.check_refused([])
        self.check_reads(list("abcdefg"), "abcdefg")
        self.check_refused(list("abcdefgh"))
        self.check_refused(["a"] * 8)
        self.check_refused(["a", "1", "1", "1", "1", "1", "1", "1"])
        self.check_refused(["a"] * 300)


class Substitutes(HoistCase):
    def test_each_at_each_place(self):
        for n in (1, 2, 3, 4):
            for many in range(1, 8):
                for place in range(1, many + 1):
                    flags = list("abcdefg"[:many])
                    flags[place - 1] = str(n)
                    if place > n:
                        word = list("abcdefg"[:many])
                        word[place - 1] = "abcdefg"[n - 1]
                        self.check_reads(flags, "".join(word))
                    else:
                        self.check_refused(flags)

    def test_the_first_place_where_each_may_stand(self):
        self.check_reads(["a", "1"], "aa")
        self.check_reads(["a", "b", "2"], "abb")
        self.check_reads(["a", "b", "c", "3"], "abcc")
        self.check_reads(["a", "b", "c", "d", "4"], "abcdd")

    def test_at_its_own_place(self):
        self.check_refused(["1"])
        self.check_refused(["a", "2"])
        self.check_refused(["a", "b", "3"])
        self.check_refused(["a", "b", "c", "4"])

    def test_above_its_own_place(self):
        self.check_refused(["2", "a"])
        self.check_refused(["a", "3", "b"])
        self.check_refused(["a", "b", "4", "c"])
        self.check_refused(["4", "a", "b", "c", "d"])

    def test_substitutes_that_stand_for_substitutes(self):
        self.check_reads(["a", "1", "2"], "aaa")
        self.check_reads(["a", "1", "2", "3", "4"], "aaaaa")
        self.check_reads(["a", "b", "1", "3", "4"], "abaaa")
        self.check_reads(["a", "b", "2", "3", "1", "4", "3"], "abbbabb")
        self.check_reads(["w", "1", "1", "2", "4", "3", "4"], "wwwwwww")

    def test_two_that_stand_for_one_another(self):
        self.check_refused(["2", "1"])
        self.check_refused(["a", "3", "2"])

    def test_one_bad_substitute_among_good_ones(self):
        self.check_refused(["a", "1", "1", "4", "1"])
        self.check_refused(["1", "1", "1"])


class NoFlags(HoistCase):
    def test_texts_that_are_no_flags(self):
        for text in ("", "ab", "a1", "11", "12", "x", "y", "z", "0", "5", "9", "A", " ", "\n", "a\n", "-1", "\u00b9"):
            for many in range(0, 7):
                for at in range(many + 1):
                    flags = list("abcdef"[:many])
                    flags.insert(at, text)
                    self.check_refused(flags)

    def test_seven_flags_and_a_text_without_signs(self):
        self.check_refused(list("abcdefg") + [""])


class Whole(HoistCase):
    def test_all_short_lists(self):
        for many in range(1, 6):
            for signs in itertools.product("ab1234", repeat=many):
                flags = list(signs)
                read = [place_read(flags, place) for place in range(1, many + 1)]
                self.assertIs(is_hoist(flags), None not in read, flags)
                if None in read:
                    with self.assertRaises(NoHoist):
                        read_of(flags)
                else:
                    self.assertEqual(read_of(flags), "".join(read), flags)

    def test_each_hoist_for_a_word_reads_back_to_it(self):
        for many in range(1, 8):
            for letters in itertools.product("aw", repeat=many):
                word = "".join(letters)
                for flags in hoists_for(word):
                    self.assertIs(is_hoist(flags), True, flags)
                    self.assertEqual(read_of(flags), word, flags)

    def test_a_hoist_reads_to_a_word_as_long_as_itself(self):
        for many in range(1, 4):
            for signs in itertools.product(FLAGS, repeat=many):
                if is_hoist(list(signs)):
                    word = read_of(list(signs))
                    self.assertTrue(is_word(word), signs)
                    self.assertEqual(len(word), many)

    def test_asked_again_it_tells_the_same(self):
        flags = ["a", "b", "1", "3"]
        self.assertEqual([read_of(flags) for _ in range(3)], ["abaa"] * 3)
        flags[0] = "c"
        self.assertEqual(read_of(flags), "cbcc")
        flags.append("x")
        self.assertIs(is_hoist(flags), False)


if __name__ == "__main__":
    unittest.main()
