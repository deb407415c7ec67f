"""Points 9 to 11, and of point 2 what concerns wants."""

import itertools
import unittest

from counting import choices_for, words_of
from flaglocker.flags import FLAGS
from flaglocker.hoists import is_hoist, read_of
from flaglocker.wants import choices_at, hoists_of, wants_of


class Choices(unittest.TestCase):
    def check_choices(self, word, choices):
        self.assertEqual(len(word), len(choices))
        for place, some in enumerate(choices, start=1):
            with self.subTest(word=word, place=place):
                told = choices_at(word, place)
                self.assertIs(type(told), list)
                self.assertEqual(told, some.split())

    def test_letters_all_alike(self):
        self.check_choices("a", ["a"])
        self.check_choices("ww", ["w", "w 1"])
        self.check_choices("aaaa", ["a", "a 1", "a 1 2", "a 1 2 3"])

    def test_substitutes_1_to_4_alone(self):
        self.check_choices(
            "bbbbbbb", ["b", "b 1", "b 1 2", "b 1 2 3", "b 1 2 3 4", "b 1 2 3 4", "b 1 2 3 4"]
        )
        self.check_choices("abcdeee", ["a", "b", "c", "d", "e", "e", "e"])
        self.check_choices("abcdedd", ["a", "b", "c", "d", "e", "d 4", "d 4"])
        self.check_choices("abcddbd", ["a", "b", "c", "d", "d 4", "b 2", "d 4"])

    def test_letters_some_alike(self):
        self.check_choices("abab", ["a", "b", "a 1", "b 2"])
        self.check_choices("abba", ["a", "b", "b 2", "a 1"])
        self.check_choices("abcabca", ["a", "b", "c", "a 1", "b 2", "c 3", "a 1 4"])
        self.check_choices("aabbaab", ["a", "a 1", "b", "b 3", "a 1 2", "a 1 2", "b 3 4"])

    def test_letters_all_unlike(self):
        for many in range(1, 8):
            self.check_choices("abcdefg"[:many], list("abcdefg"[:many]))
            self.check_choices("wvutsrq"[:many], list("wvutsrq"[:many]))

    def test_what_stands_below_is_no_choice(self):
        self.check_choices("baa", ["b", "a", "a 2"])
        self.assertEqual(choices_at("aaaaaaa", 1), ["a"])
        self.assertEqual(choices_at("aaaaaaa", 4), ["a", "1", "2", "3"])

    def test_all_words_of_two_letters(self):
        for word in words_of("ab", 7):
            told = [choices_at(word, place) for place in range(1, len(word) + 1)]
            self.assertEqual(told, choices_for(word), word)

    def test_a_hoist_reads_to_a_word_just_where_choices_hang(self):
        for many in (1, 2, 3, 4):
            for word in [word for word in words_of("ab", 4) if len(word) == many]:
                choices = [choices_at(word, place) for place in range(1, many + 1)]
                for flags in itertools.product("ab1234", repeat=many):
                    reads = is_hoist(list(flags)) and read_of(list(flags)) == word
                    hangs = all(flag in some for flag, some in zip(flags, choices, strict=True))
                    self.assertEqual(reads, hangs, (word, flags))

    def test_what_is_told_is_the_askers_own(self):
        told = choices_at("aa", 2)
        told.append("4")
        self.assertEqual(choices_at("aa", 2), ["a", "1"])


class Wants(unittest.TestCase):
    def check_wants(self, words, wants):
        before = list(words)
        with self.subTest(words=words):
            told = wants_of(words)
            self.assertIs(type(told), list)
            self.assertEqual(told, wants)
            self.assertEqual(words, before)
            for want in told:
                self.assertIs(type(want), tuple)
                self.assertEqual([type(part) for part in want], [int, int])

    def test_no_words(self):
        self.check_wants([], [])

    def test_one_word(self):
        self.check_wants(["a"], [(0, 1)])
        self.check_wants(["abc"], [(0, 1), (0, 2), (0, 3)])
        self.check_wants(["aaaaaaa"], [(0, 1), (0, 2), (0, 3), (0, 4), (0, 5), (0, 6), (0, 7)])

    def test_several_words(self):
        self.check_wants(["ab", "a"], [(0, 1), (0, 2), (1, 1)])
        self.check_wants(["a", "ab"], [(0, 1), (1, 1), (1, 2)])
        self.check_wants(["a", "a", "a"], [(0, 1), (1, 1), (2, 1)])

    def test_eight_words(self):
        words = ["a", "bb", "c", "ded", "w", "abcdefg", "vv", "u"]
        self.check_wants(words, [
            (0, 1), (1, 1), (1, 2), (2, 1), (3, 1), (3, 2), (3, 3), (4, 1),
            (5, 1), (5, 2), (5, 3), (5, 4), (5, 5), (5, 6), (5, 7), (6, 1), (6, 2), (7, 1),
        ])
        wants = [(number, place) for number in range(8) for place in range(1, 8)]
        self.check_wants(["abababa"] * 8, wants)

    def test_what_is_told_is_the_askers_own(self):
        words = ["ab"]
        told = wants_of(words)
        told.clear()
        words.append("c")
        self.assertEqual(told, [])
        self.assertEqual(wants_of(words), [(0, 1), (0, 2), (1, 1)])


class Hoists(unittest.TestCase):
    def check_hoists(self, words, flags, hoists):
        before = (list(words), list(flags))
        with self.subTest(words=words, flags=flags):
            told = hoists_of(words, flags)
            self.assertEqual(told, hoists)
            self.assertEqual([type(part) for part in [told] + told], [list] * (len(words) + 1))
            self.assertEqual((words, flags), before)

    def test_no_words(self):
        self.check_hoists([], [], [])

    def test_one_word(self):
        self.check_hoists(["a"], ["a"], [["a"]])
        self.check_hoists(["abab"], ["a", "b", "1", "2"], [["a", "b", "1", "2"]])
        self.check_hoists(["aaaaaaa"], list("a123411"), [list("a123411")])

    def test_several_words(self):
        self.check_hoists(["ab", "a"], ["a", "b", "a"], [["a", "b"], ["a"]])
        self.check_hoists(["a", "bb", "cdc"], list("ab1cd1"), [["a"], ["b", "1"], ["c", "d", "1"]])
        self.check_hoists(list("abcdefgh"), list("abcdefgh"), [[letter] for letter in "abcdefgh"])
        self.check_hoists(["abcdefg"] * 8, list("abcdefg") * 8, [list("abcdefg")] * 8)

    def test_the_flags_are_cut_as_they_stand(self):
        self.check_hoists(["ab", "cde", "f"], list("fedcba"), [["f", "e"], ["d", "c", "b"], ["a"]])
        words = [FLAGS[:7], FLAGS[7:9], FLAGS[9:16]]
        self.check_hoists(words, list(FLAGS[:16]), [list(word) for word in words])

    def test_a_flag_for_each_want_leads_back_to_its_want(self):
        words = ["aba", "b", "aa"]
        flags = [choices_at(words[number], place)[-1] for number, place in wants_of(words)]
        self.assertEqual([read_of(hoist) for hoist in hoists_of(words, flags)], words)

    def test_what_is_told_is_the_askers_own(self):
        words, flags = ["a"], ["a"]
        told = hoists_of(words, flags)
        told[0].append("b")
        told.append(["c"])
        self.assertEqual((words, flags), (["a"], ["a"]))
        flags[0] = "d"
        self.assertEqual(told, [["a", "b"], ["c"]])
        self.assertEqual(hoists_of(words, flags), [["d"]])


if __name__ == "__main__":
    unittest.main()
