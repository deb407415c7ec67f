"""Points 16 and 17, and of points 2 and 3 what concerns choosing."""

import copy
import itertools
import random
import unittest

from counting import FLAGS, check_lack, hangs, lockers_of, words_of
from flaglocker.choosing import by_rank, most_kept


def picked(words, numbers):
    return [words[number] for number in numbers]


def ranked(locker, words):
    """Point 16, gone along the list, each time by a search through all choices."""
    kept = []
    for number in range(len(words)):
        if hangs(locker, picked(words, kept + [number])):
            kept.append(number)
    return kept


def most_hanging(locker, words):
    """All lists of numbers of words that hang together, as many as can be, sought through all of them."""
    for many in range(len(words), -1, -1):
        lists = [list(numbers) for numbers in itertools.combinations(range(len(words)), many)]
        found = [numbers for numbers in lists if hangs(locker, picked(words, numbers))]
        if found:
            return found


class ByRank(unittest.TestCase):
    def check_ranked(self, locker, words, kept):
        before = copy.deepcopy((locker, words))
        told = by_rank(locker, words)
        self.assertIs(type(told), list, before)
        self.assertEqual(told, kept, before)
        self.assertEqual([type(number) for number in told], [int] * len(told))
        self.assertEqual((locker, words), before)

    def test_no_words(self):
        self.check_ranked({}, [], [])
        self.check_ranked({"a": 2}, [], [])

    def test_all_can_hang(self):
        self.check_ranked({"a": 1}, ["a"], [0])
        self.check_ranked({"a": 2, "b": 1, "1": 1}, ["aa", "ba"], [0, 1])
        self.check_ranked({flag: 9 for flag in FLAGS}, ["abcdefg"] * 8, [0, 1, 2, 3, 4, 5, 6, 7])

    def test_none_can_hang(self):
        self.check_ranked({}, ["a"], [])
        self.check_ranked({"w": 9, "1": 9}, ["a", "wb", "vv", "aaaaaaa"], [])

    def test_some_can_hang(self):
        self.check_ranked({"a": 1}, ["a", "a"], [0])
        self.check_ranked({"a": 1, "b": 1}, ["a", "ab", "b"], [0, 2])
        self.check_ranked({"a": 1, "b": 1}, ["c", "ab", "a"], [1])
        self.check_ranked({"a": 3}, ["aaaa", "a", "aaa", "a", "aa", "a"], [1, 3, 5])

    def test_an_early_word_is_kept_though_more_would_hang_without_it(self):
        self.check_ranked({"a": 1, "b": 1, "c": 1}, ["abc", "a", "b", "c"], [0])
        self.check_ranked({"a": 1, "b": 1, "c": 1}, ["a", "b", "c", "abc"], [0, 1, 2])
        self.check_ranked({"a": 1, "b": 1, "c": 1}, ["a", "abc", "c", "b"], [0, 2, 3])

    def test_a_word_kept_ahead_may_hang_by_other_flags(self):
        self.check_ranked({"a": 2, "1": 1}, ["aa", "a"], [0, 1])
        self.check_ranked({"a": 2, "1": 1, "2": 1}, ["aaa", "b", "a", "a"], [0, 2])

    def test_all_small_lists(self):
        for words in itertools.product(["a", "b", "aa", "ab", "bb"], repeat=3):
            for locker in lockers_of({"a": 2, "b": 2, "1": 1}):
                self.check_ranked(locker, list(words), ranked(locker, list(words)))

    def test_eight_words(self):
        chance = random.Random(16)
        some = list(words_of("ab", 3))
        for _ in range(60):
            words = chance.choices(some, k=8)
            locker = {"a": chance.randrange(5), "b": chance.randrange(5), "1": chance.randrange(4), "2": 1}
            self.check_ranked(locker, words, ranked(locker, words))

    def test_what_is_told_is_the_askers_own(self):
        locker, words = {"a": 1}, ["a"]
        told = by_rank(locker, words)
        told.append(5)
        words.append("a")
        self.assertEqual(told, [0, 5])
        self.assertEqual(by_rank(locker, words), [0])


class MostKept(unittest.TestCase):
    def check_papers(self, locker, words, told):
        """What point 17 says of papers; that the numbers are the right ones is held elsewhere."""
        larger = itertools.combinations(range(len(words)), len(told[0]) + 1)
        self.assertIs(type(told[1]), list)
        self.assertEqual([paper[0] for paper in told[1]], [list(numbers) for numbers in larger], (locker, words))
        for paper in told[1]:
            self.assertIs(type(paper), tuple)
            self.assertEqual([type(part) for part in paper], [list, list, list])
            check_lack(self, locker, words, paper[1], paper[2])
            self.assertTrue({number for number, place in paper[1]} <= set(paper[0]), (locker, words, paper))

    def check_most(self, locker, words, kept=None):
        before = copy.deepcopy((locker, words))
        told = most_kept(locker, words)
        self.assertIs(type(told), tuple, before)
        self.assertEqual([type(part) for part in told], [list, list], before)
        self.assertEqual([type(number) for number in told[0]], [int] * len(told[0]), before)
        self.assertEqual((locker, words), before)
        self.assertEqual(told[0], min(most_hanging(locker, words)), before)
        if kept is not None:
            self.assertEqual(told[0], kept, before)
        self.check_papers(locker, words, told)
        return told

    def test_one_word(self):
        self.assertEqual(self.check_most({"a": 1, "1": 1}, ["aa"]), ([0], []))
        told = self.check_most({"a": 1}, ["aa"], [])
        self.assertEqual(told, ([], [([0], [(0, 1), (0, 2)], told[1][0][2])]))
        self.assertEqual(self.check_most({}, ["a"])[1][0][:2], ([0], [(0, 1)]))

    def test_all_can_hang(self):
        self.assertEqual(self.check_most({"a": 2, "b": 1, "1": 1}, ["aa", "ba"]), ([0, 1], []))
        self.assertEqual(self.check_most({letter: 1 for letter in "abcdef"}, list("fedcba")), ([0, 1, 2, 3, 4, 5], []))
        self.assertEqual(self.check_most({"a": 6, "1": 6}, ["aa"] * 6), ([0, 1, 2, 3, 4, 5], []))

    def test_none_can_hang(self):
        told = self.check_most({"w": 9, "1": 9}, ["a", "wb", "vv"], [])
        self.assertEqual([paper[0] for paper in told[1]], [[0], [1], [2]])
        self.assertEqual(told[1][1][1], [(1, 2)])
        told = self.check_most({}, ["a"] * 6, [])
        self.assertEqual([paper[:2] for paper in told[1]], [([number], [(number, 1)]) for number in range(6)])

    def test_some_can_hang(self):
        told = self.check_most({"a": 1, "b": 1, "c": 1}, ["abc", "a", "b", "c"], [1, 2, 3])
        self.assertEqual([paper[0] for paper in told[1]], [[0, 1, 2, 3]])
        told = self.check_most({"a": 2}, ["aa", "a", "a"], [1, 2])
        self.assertEqual([paper[0] for paper in told[1]], [[0, 1, 2]])

    def test_of_several_lists_the_least(self):
        self.check_most({"a": 1}, ["a", "a"], [0])
        self.check_most({"a": 2}, ["a", "a", "a", "a"], [0, 1])
        self.check_most({"a": 2, "b": 1}, ["b", "aa", "a", "a"], [0, 2, 3])
        self.check_most({"a": 1, "b": 1}, ["ab", "a", "ab", "b"], [1, 3])
        self.check_most({"a": 1, "b": 2}, ["aa", "ab", "b", "a", "b"], [2, 3, 4])
        self.check_most({"a": 1, "b": 1}, ["c", "ab", "ab"], [1])

    def test_papers_in_the_order_of_their_lists(self):
        told = self.check_most({"a": 1}, ["a"] * 4, [0])
        self.assertEqual([paper[0] for paper in told[1]], [[0, 1], [0, 2], [0, 3], [1, 2], [1, 3], [2, 3]])
        self.assertEqual([paper[1] for paper in told[1]], [[(n, 1) for n in paper[0]] for paper in told[1]])

    def test_the_words_numbers_are_those_in_the_whole_list(self):
        told = self.check_most({"a": 2, "b": 1, "1": 1}, ["c", "aa", "cc", "b", "bb", "ab"])
        for numbers, wants, flags in told[1]:
            for number, place in wants:
                self.assertIn(number, numbers)
        told = self.check_most({"a": 1}, ["b", "a", "b", "b", "b", "a"], [1])
        papers = {tuple(numbers): wants for numbers, wants, flags in told[1]}
        self.assertEqual(papers[(1, 5)], [(1, 1), (5, 1)])
        self.assertEqual(papers[(3, 5)], [(3, 1)])

    def test_not_by_rank(self):
        locker, words = {"a": 1, "b": 1}, ["ab", "a", "b"]
        self.assertEqual(by_rank(locker, words), [0])
        self.check_most(locker, words, [1, 2])

    def test_all_small_lists(self):
        for many in (1, 2, 3):
            for words in itertools.product(["a", "b", "aa", "ab"], repeat=many):
                for locker in lockers_of({"a": 2, "b": 1, "1": 1}):
                    self.check_most(locker, list(words))

    def test_six_words(self):
        chance = random.Random(17)
        some = list(words_of("ab", 3))
        for _ in range(60):
            words = chance.choices(some, k=6)
            locker = {"a": chance.randrange(6), "b": chance.randrange(5), "1": chance.randrange(4), "2": 1}
            self.check_most(locker, words)

    def test_six_long_words(self):
        told = self.check_most({flag: 3 for flag in "abcdefg"}, ["abcdefg"] * 6, [0, 1, 2])
        self.assertEqual(len(told[1]), 15)

    def test_what_is_told_is_the_askers_own(self):
        locker, words = {"a": 1}, ["a", "a", "a"]
        told = most_kept(locker, words)
        before = copy.deepcopy(told)
        words.append("b")
        locker["a"] = 7
        self.assertEqual(told, before)
        told[1][0][0].append(9)
        told[1][0][1].clear()
        told[1][0][2].clear()
        self.assertEqual((told[0], told[1][1:]), (before[0], before[1][1:]))
        told[0].clear()
        self.assertEqual(told[1][1:], before[1][1:])
        self.assertEqual(most_kept({"a": 1}, ["a", "a", "a"]), before)


if __name__ == "__main__":
    unittest.main()
