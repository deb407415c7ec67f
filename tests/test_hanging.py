"""Points 12 to 15, and of points 2 and 3 what concerns hanging."""

import copy
import itertools
import random
import unittest
from collections import Counter

from counting import (
    FLAGS, check_lack, hangs, hung_by_count, is_in, lack_by_count, lockers_of, needs_of, places_of, words_of,
)
from flaglocker.errors import Lack, TowerError
from flaglocker.hanging import hang_all, is_hanging, is_lack
from flaglocker.hoists import read_of


class HangingCase(unittest.TestCase):
    def check_hung(self, locker, words):
        before = copy.deepcopy((locker, words))
        hoists = hang_all(locker, words)
        told = (locker, words, hoists)
        self.assertIs(type(hoists), list, told)
        for hoist in hoists:
            self.assertIs(type(hoist), list, told)
        self.assertEqual([read_of(hoist) for hoist in hoists], words, told)
        self.assertTrue(is_in(Counter(flag for hoist in hoists for flag in hoist), locker), told)
        self.assertIs(is_hanging(locker, words, hoists), True, told)
        self.assertEqual((locker, words), before)
        return hoists

    def check_refused(self, locker, words):
        before = copy.deepcopy((locker, words))
        with self.assertRaises(Lack, msg=before) as refusal:
            hang_all(locker, words)
        lack = refusal.exception
        self.assertIs(type(lack), Lack)
        self.assertIsInstance(lack, TowerError)
        self.assertEqual((locker, words), before)
        check_lack(self, locker, words, lack.wants, lack.flags)
        self.assertIs(is_lack(locker, words, lack.wants, lack.flags), True, before)
        return lack

    def check_either(self, locker, words, can):
        if can:
            self.check_hung(locker, words)
        else:
            self.check_refused(locker, words)


class Hung(HangingCase):
    def test_no_words(self):
        for locker in ({}, {"a": 0}, {"a": 3, "1": 1}):
            self.assertEqual(self.check_hung(locker, []), [])

    def test_by_letters_alone(self):
        self.assertEqual(self.check_hung({"a": 1}, ["a"]), [["a"]])
        self.assertEqual(self.check_hung({"a": 2, "b": 1}, ["ab", "a"]), [["a", "b"], ["a"]])
        self.assertEqual(self.check_hung({"a": 3}, ["aaa"]), [["a", "a", "a"]])
        words = ["abcdefg", "hijklmn", "opqrstu", "vw"]
        self.assertEqual(self.check_hung({letter: 1 for letter in FLAGS[:23]}, words), [list(word) for word in words])

    def test_by_substitutes_alone(self):
        self.assertEqual(self.check_hung({"a": 1, "1": 1}, ["aa"]), [["a", "1"]])
        self.assertEqual(self.check_hung({"a": 1, "b": 1, "1": 1, "2": 1}, ["abab"]), [["a", "b", "1", "2"]])
        self.assertEqual(
            self.check_hung({"a": 1, "1": 1, "2": 1, "3": 1, "4": 1}, ["aaaaa"]), [["a", "1", "2", "3", "4"]]
        )
        self.check_hung({"a": 1, "b": 1, "1": 2}, ["aa", "bb"])
        self.check_hung({"a": 1, "4": 3, "1": 1, "2": 1, "3": 1}, ["aaaaaaa"])
        self.check_hung({"w": 8, "1": 48}, ["wwwwwww"] * 8)

    def test_flags_already_chosen_are_chosen_otherwise(self):
        self.assertEqual(self.check_hung({"a": 2, "1": 1}, ["aa", "a"]), [["a", "1"], ["a"]])
        self.assertEqual(self.check_hung({"a": 2, "1": 1}, ["a", "aa"]), [["a"], ["a", "1"]])
        self.assertEqual(self.check_hung({"a": 2, "1": 1, "2": 1}, ["aaa", "a"]), [["a", "1", "2"], ["a"]])
        self.assertEqual(
            self.check_hung({"a": 2, "1": 1, "2": 1, "3": 1, "4": 1}, ["aaaaa", "a"]),
            [["a", "1", "2", "3", "4"], ["a"]],
        )
        self.check_hung({"a": 2, "b": 2, "1": 1, "2": 1}, ["aa", "abb"])
        self.check_hung({"a": 2, "b": 3, "1": 1, "2": 1}, ["bbb", "aa", "b"])
        self.check_hung({"a": 4, "1": 2, "2": 1}, ["aa", "aaa", "a", "a"])

    def test_more_flags_than_are_wanted(self):
        self.check_hung({flag: 99 for flag in FLAGS}, ["abcabca"] * 8)
        self.check_hung({flag: 99 for flag in FLAGS}, ["w"])

    def test_the_same_word_several_times(self):
        self.check_hung({"a": 8}, ["a"] * 8)
        self.check_refused({"a": 7, "1": 9}, ["a"] * 8)
        self.check_hung({"a": 8, "b": 8, "1": 8}, ["aba"] * 8)
        self.check_refused({"a": 8, "b": 8, "1": 7, "2": 9}, ["aba"] * 8)

    def test_alike_lockers_tell_the_same(self):
        locker = {"a": 2, "b": 1, "1": 2, "2": 1, "c": 0}
        for words in (["aab", "a"], ["aaab"], ["aa", "ab"]):
            told = self.check_hung(locker, words)
            for rows in itertools.permutations(locker.items()):
                self.assertEqual(hang_all(dict(rows), words), told)


class Refused(HangingCase):
    def test_an_empty_locker(self):
        for locker in ({}, {"a": 0, "1": 0}):
            lack = self.check_refused(locker, ["a"])
            self.assertEqual((lack.wants, lack.flags[:1]), ([(0, 1)], ["a"]))
            self.check_refused(locker, ["aa"])
            self.check_refused(locker, ["abc", "w"])

    def test_other_flags_do_not_help(self):
        self.check_refused({"b": 9, "1": 9, "2": 9, "3": 9, "4": 9}, ["a"])
        self.check_refused({"a": 1, "2": 9, "3": 9, "4": 9}, ["aa"])
        self.check_refused({"a": 1, "b": 1, "1": 9, "3": 9, "4": 9}, ["abb"])
        self.check_refused({"a": 1, "b": 1, "c": 1, "d": 1, "e": 1, "1": 9, "2": 9, "3": 9, "4": 9}, ["abcdee"])

    def test_just_enough_and_one_of_each_fewer(self):
        cases = [
            ({"a": 1}, ["a"]),
            ({"a": 1, "1": 1}, ["aa"]),
            ({"a": 1, "b": 1, "1": 1, "2": 1}, ["abab"]),
            ({"a": 2, "1": 1, "2": 1}, ["aaa", "a"]),
            ({"a": 1, "1": 1, "2": 1, "3": 1, "4": 3}, ["aaaaaaa"]),
            ({"a": 3, "b": 2, "1": 3, "2": 1}, ["aba", "bab", "aaa"]),
            ({letter: 2 for letter in "abcdefg"}, ["abcdefg", "gfedcba"]),
            ({"a": 8, "1": 8, "2": 8}, ["aaa"] * 8),
        ]
        for locker, words in cases:
            with self.subTest(locker=locker, words=words):
                self.assertEqual(sum(locker.values()), len(places_of(words)))
                self.check_hung(locker, words)
                for flag in locker:
                    self.check_refused({**locker, flag: locker[flag] - 1}, words)

    def test_the_lack_lies_with_some_of_the_words(self):
        lack = self.check_refused({"a": 1, "b": 1, "c": 1}, ["a", "b", "bc"])
        self.assertTrue(set(lack.wants) <= {(1, 1), (2, 1)})
        lack = self.check_refused({"a": 2, "b": 5, "1": 1}, ["b", "aa", "b", "aa"])
        self.assertTrue(set(lack.wants) <= {(1, 1), (1, 2), (3, 1), (3, 2)})

    def test_wants_and_flags_in_their_order(self):
        lack = self.check_refused({"w": 1, "v": 1, "1": 1, "2": 1}, ["wvwv", "wv"])
        self.assertEqual(lack.wants, sorted(lack.wants))
        self.assertEqual(lack.flags, sorted(lack.flags, key=FLAGS.index))
        self.check_refused({"w": 1, "a": 1, "1": 2}, ["wwa", "aaw", "w"])

    def test_what_is_told_is_the_askers_own(self):
        locker, words = {"a": 1}, ["aa"]
        lack = self.check_refused(locker, words)
        told = copy.deepcopy((lack.wants, lack.flags))
        words.append("b")
        locker["b"] = 4
        self.assertEqual((lack.wants, lack.flags), told)
        lack.wants.clear()
        lack.flags.clear()
        again = self.check_refused({"a": 1}, ["aa"])
        self.assertEqual((again.wants, again.flags), told)
        locker["1"] = 1
        hoists = self.check_hung(locker, words)
        hoists[0].append("b")
        hoists.append([])
        self.assertEqual((locker, words), ({"a": 1, "b": 4, "1": 1}, ["aa", "b"]))
        self.assertEqual(self.check_hung(locker, words), [["a", "1"], ["b"]])


class AllSmall(HangingCase):
    """Just where some choice, sought through all of them, is in the locker."""

    def check_all(self, lists, most):
        for words in lists:
            needs = needs_of(words)
            for locker in lockers_of(most):
                self.check_either(locker, words, any(is_in(need, locker) for need in needs))

    def test_one_word(self):
        self.check_all([[word] for word in words_of("ab", 4)], {"a": 3, "b": 2, "1": 1, "2": 1, "3": 1})
        longer = [[word] for word in words_of("ab", 5) if len(word) == 5]
        self.check_all(longer, {"a": 2, "b": 1, "1": 2, "2": 1, "4": 1})

    def test_two_words(self):
        pairs = itertools.product(words_of("ab", 3), repeat=2)
        self.check_all([list(pair) for pair in pairs], {"a": 3, "b": 2, "1": 2, "2": 1})

    def test_three_words(self):
        threes = itertools.product(words_of("ab", 2), repeat=3)
        self.check_all([list(three) for three in threes], {"a": 3, "b": 3, "1": 2})

    def test_three_letters(self):
        pairs = itertools.product(["abc", "aac", "cab", "cc", "b"], repeat=2)
        self.check_all([list(pair) for pair in pairs], {"a": 2, "b": 2, "c": 2, "1": 1, "2": 1})

    def test_such_wants_and_flags_are_there_just_where_words_cannot_hang(self):
        for words in (["a"], ["aa"], ["ab"], ["aba"], ["a", "aa"], ["ab", "b"]):
            places = places_of(words)
            for locker in lockers_of({"a": 2, "b": 1, "1": 1, "2": 1}):
                found = any(
                    is_lack(locker, words, list(wants), list(flags))
                    for many in range(len(places) + 1)
                    for wants in itertools.combinations(places, many)
                    for size in range(5)
                    for flags in itertools.combinations("ab12", size)
                )
                self.assertEqual(found, not hangs(locker, words), (locker, words))


class Larger(HangingCase):
    def test_larger_lists_by_their_own_witness(self):
        # Hoists or wants and flags are each a proof, so no search is needed to hold what is told against the points.
        chance = random.Random(13)
        told = Counter()
        for _ in range(1500):
            letters = "abcd"[:chance.randrange(1, 5)]
            words = ["".join(chance.choices(letters, k=chance.randrange(1, 8))) for _ in range(chance.randrange(9))]
            most = chance.randrange(1, 9)
            locker = {flag: chance.randrange(most + 1) for flag in letters + "1234"}
            try:
                hang_all(locker, words)
            except Lack:
                told["refused"] += 1
                self.check_refused(locker, words)
            else:
                told["hung"] += 1
                self.check_hung(locker, words)
        self.assertGreater(min(told["refused"], told["hung"]), 200)


class LookedAtHoists(HangingCase):
    def check_looked(self, locker, words, hoists, hung):
        before = copy.deepcopy((locker, words, hoists))
        with self.subTest(locker=locker, words=words, hoists=hoists):
            self.assertIs(is_hanging(locker, words, hoists), hung)
            self.assertEqual(hung_by_count(locker, words, hoists), hung)
            self.assertEqual((locker, words, hoists), before)

    def test_no_words(self):
        self.check_looked({}, [], [], True)
        self.check_looked({"a": 1}, [], [["a"]], False)
        self.check_looked({"a": 1}, [], [[]], False)

    def test_too_many_or_too_few_hoists(self):
        locker = {"a": 9, "b": 9}
        self.check_looked(locker, ["a", "b"], [["a"], ["b"]], True)
        self.check_looked(locker, ["a", "b"], [["a"]], False)
        self.check_looked(locker, ["a", "b"], [], False)
        self.check_looked(locker, ["a", "b"], [["a"], ["b"], ["a"]], False)
        self.check_looked(locker, ["a", "b"], [["a"], ["b"], []], False)

    def test_a_hoist_too_long_too_short_or_without_flags(self):
        locker = {"a": 9, "b": 9, "1": 9}
        self.check_looked(locker, ["ab", "aa"], [["a", "b"], ["a", "1"]], True)
        self.check_looked(locker, ["ab", "aa"], [["a", "b"], ["a", "1", "1"]], False)
        self.check_looked(locker, ["ab", "aa"], [["a", "b", "b"], ["a", "1"]], False)
        self.check_looked(locker, ["ab", "aa"], [["a"], ["a", "1"]], False)
        self.check_looked(locker, ["ab", "aa"], [["a", "b"], ["a"]], False)
        self.check_looked(locker, ["ab", "aa"], [[], ["a", "1"]], False)
        self.check_looked(locker, ["ab", "aa"], [["a", "b"], []], False)
        self.check_looked(locker, ["aaaaaaa"], [list("a111111")], True)
        self.check_looked(locker, ["aaaaaaa"], [list("a1111111")], False)

    def test_a_flag_that_is_no_choice(self):
        locker = {flag: 9 for flag in FLAGS}
        self.check_looked(locker, ["aba"], [["a", "b", "1"]], True)
        for flags in ("abb", "ab2", "ab3", "ab4", "bba", "a1a", "1ba", "2ba", "a2a", "abc", "aaa"):
            self.check_looked(locker, ["aba"], [list(flags)], False)

    def test_hoists_in_another_order(self):
        locker = {"a": 2, "b": 1, "1": 1}
        self.check_looked(locker, ["ab", "aa"], [["a", "b"], ["a", "1"]], True)
        self.check_looked(locker, ["ab", "aa"], [["a", "1"], ["a", "b"]], False)

    def test_one_flag_too_few(self):
        words, hoists = ["aba", "bb"], [["a", "b", "1"], ["b", "1"]]
        locker = {"a": 1, "b": 2, "1": 2}
        self.check_looked(locker, words, hoists, True)
        for flag in locker:
            self.check_looked({**locker, flag: locker[flag] - 1}, words, hoists, False)
            self.check_looked({other: locker[other] for other in locker if other != flag}, words, hoists, False)
            self.check_looked({**locker, flag: locker[flag] + 1}, words, hoists, True)
        self.check_looked({}, words, hoists, False)

    def test_each_hoist_alone_but_not_all_together(self):
        self.check_looked({"a": 1}, ["a"], [["a"]], True)
        self.check_looked({"a": 1}, ["a", "a"], [["a"], ["a"]], False)
        self.check_looked({"a": 2, "1": 1}, ["aa", "aa"], [["a", "1"], ["a", "1"]], False)

    def test_flags_other_than_told_would_do(self):
        self.check_hung({"a": 1, "1": 1}, ["aa"])
        self.check_looked({"a": 1, "1": 1}, ["aa"], [["a", "a"]], False)

    def test_all_short_lists_of_flags(self):
        for word in ("a", "ab", "aa", "aba", "abb", "aaa"):
            for many in range(5):
                for flags in itertools.product("ab12", repeat=many):
                    for locker in ({"a": 1, "b": 1, "1": 1, "2": 1}, {"a": 3, "b": 2}, {"a": 1, "b": 0, "1": 2}):
                        told = is_hanging(locker, [word], [list(flags)])
                        self.assertIs(told, hung_by_count(locker, [word], [list(flags)]), (locker, word, flags))


class LookedAtLacks(HangingCase):
    def check_looked(self, locker, words, wants, flags, lack):
        before = copy.deepcopy((locker, words, wants, flags))
        with self.subTest(locker=locker, words=words, wants=wants, flags=flags):
            self.assertIs(is_lack(locker, words, wants, flags), lack)
            self.assertEqual(lack_by_count(locker, words, wants, flags), lack)
            self.assertEqual((locker, words, wants, flags), before)

    def test_none_of_both(self):
        self.check_looked({}, [], [], [], False)
        self.check_looked({}, ["a"], [], [], False)
        self.check_looked({}, ["a"], [], ["a"], False)
        self.check_looked({"a": 1}, ["aa"], [(0, 1), (0, 2)], [], False)

    def test_as_many_wants_as_flags_or_one_more(self):
        wants = [(0, 1), (0, 2)]
        self.check_looked({"a": 1}, ["aa"], wants, ["a", "1"], True)
        self.check_looked({"a": 1, "1": 0}, ["aa"], wants, ["a", "1"], True)
        self.check_looked({"a": 1, "1": 1}, ["aa"], wants, ["a", "1"], False)
        self.check_looked({"a": 2}, ["aa"], wants, ["a", "1"], False)
        self.check_looked({}, ["aa"], wants, ["a", "1"], True)
        self.check_looked({"a": 1, "b": 9, "2": 9}, ["aa"], wants, ["a", "1"], True)

    def test_told_twice(self):
        self.check_looked({"a": 1}, ["aa"], [(0, 1), (0, 2), (0, 2)], ["a", "1"], False)
        self.check_looked({"a": 1}, ["aa"], [(0, 1), (0, 2)], ["a", "1", "1"], False)
        self.check_looked({"a": 1}, ["a"], [(0, 1), (0, 1)], ["a"], False)
        self.check_looked({}, ["a"], [(0, 1)], ["a", "a"], False)
        self.check_looked({}, ["a"], [(0, 1)], ["a", "w", "w"], False)

    def test_flags_that_are_nobodys_choice(self):
        self.check_looked({"a": 1}, ["aa"], [(0, 1), (0, 2)], ["a", "b", "1", "4"], True)
        self.check_looked({"a": 1, "b": 1}, ["aa"], [(0, 1), (0, 2)], ["a", "b", "1"], False)
        self.check_looked({}, ["a"], [(0, 1)], list(FLAGS), True)

    def test_a_choice_that_is_left_out(self):
        self.check_looked({"a": 1}, ["aa"], [(0, 1), (0, 2)], ["a"], False)
        self.check_looked({"a": 0}, ["aa"], [(0, 1)], ["a"], True)
        self.check_looked({"a": 0}, ["aa"], [(0, 2)], ["a"], False)
        self.check_looked({"a": 0}, ["aa"], [(0, 2)], ["1"], False)
        self.check_looked({"a": 0}, ["aa"], [(0, 2)], ["1", "a"], True)

    def test_no_wants_of_the_words(self):
        self.check_looked({}, ["a"], [(1, 1)], ["a"], False)
        self.check_looked({}, ["a"], [(0, 2)], ["a", "1"], False)
        self.check_looked({}, ["a"], [(0, 0)], ["a"], False)
        self.check_looked({}, ["a"], [(-1, 1)], ["a"], False)
        self.check_looked({}, [], [(0, 1)], ["a"], False)

    def test_texts_that_are_no_flags(self):
        for text in ("", "x", "5", "a1", "aa"):
            self.check_looked({}, ["a"], [(0, 1)], ["a", text], False)

    def test_what_is_told_and_changes_of_it(self):
        cases = [
            ({}, ["aa"]), ({"a": 1}, ["aa"]), ({"a": 1, "b": 1, "1": 1}, ["abab"]), ({"a": 2, "1": 1}, ["aaa", "a"]),
            ({"a": 1, "b": 1, "c": 1}, ["a", "b", "bc"]), ({"a": 7, "1": 9}, ["a"] * 8),
            ({"w": 1, "1": 1}, ["ww", "vw"]),
        ]
        for locker, words in cases:
            lack = self.check_refused(locker, words)
            wants, flags = lack.wants, lack.flags
            self.check_looked(locker, words, wants[::-1], flags[::-1], True)
            self.check_looked(locker, words, wants[1:] + wants[:1], flags[1:] + flags[:1], True)
            for want in wants:
                self.check_looked(locker, words, wants + [want], flags, False)
                fewer = [other for other in wants if other != want]
                enough = len(fewer) > sum(locker.get(flag, 0) for flag in flags)
                self.check_looked(locker, words, fewer, flags, enough)
            for flag in flags:
                self.check_looked(locker, words, wants, flags + [flag], False)
                fewer = [other for other in flags if other != flag]
                self.check_looked(locker, words, wants, fewer, lack_by_count(locker, words, wants, fewer))

    def test_just_one_want_more_and_one_left_out(self):
        self.check_looked({"a": 1, "1": 1}, ["aa", "a"], [(0, 1), (0, 2), (1, 1)], ["a", "1"], True)
        for left_out in range(3):
            wants = [(0, 1), (0, 2), (1, 1)]
            wants.pop(left_out)
            self.check_looked({"a": 1, "1": 1}, ["aa", "a"], wants, ["a", "1"], False)

    def test_all_small_wants_and_flags(self):
        for words in (["aa"], ["ab", "a"], ["aba"]):
            places = places_of(words)
            for locker in lockers_of({"a": 2, "b": 1, "1": 1, "2": 1}):
                for wants in itertools.chain.from_iterable(itertools.product(places, repeat=n) for n in range(3)):
                    for flags in (["a"], ["b"], ["a", "1"], ["1", "a", "b"], ["a", "a", "1"], ["2", "b", "a", "1"]):
                        told = is_lack(locker, words, list(wants), flags)
                        self.assertIs(told, lack_by_count(locker, words, list(wants), flags), (locker, words, wants))


if __name__ == "__main__":
    unittest.main()
