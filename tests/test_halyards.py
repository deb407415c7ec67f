"""Points 18 to 20, and of points 2 and 3 what concerns halyards."""

import copy
import itertools
import random
import unittest
from collections import Counter

from counting import FLAGS, check_lack, flags_in_all, hangs, hoist_by_chance, lockers_of, reads_to, sets_of_others
from counting import sought, tried, word_of, words_of
from flaglocker.errors import Lack, TowerError
from flaglocker.halyards import hauled, hauling_papers


class HalyardsCase(unittest.TestCase):
    def check_hauled(self, locker, halyards, number, word, lowered):
        """What is told where the set that is lowered is known; with it the papers."""
        handed = (locker, halyards, number, word)
        before = copy.deepcopy(handed)
        told = hauled(*handed)
        self.assertEqual(handed, before)
        self.assertIs(type(told), tuple, before)
        self.assertEqual([type(part) for part in told], [list, list, dict], before)
        self.assertEqual(told[0], lowered, before)
        self.assertEqual([type(other) for other in told[0]], [int] * len(lowered), before)
        self.check_hoists(before, told)
        self.check_locker(before, told)
        self.check_papers(handed, lowered)
        return told

    def check_hoists(self, handed, told):
        locker, halyards, number, word = handed
        self.assertEqual(len(told[1]), len(halyards), handed)
        for at, hoist in enumerate(told[1]):
            if at == number:
                self.assertTrue(reads_to(hoist, word), (handed, told))
            elif at in told[0]:
                self.assertTrue(reads_to(hoist, word_of(halyards[at])), (handed, told))
            else:
                self.assertEqual(hoist, halyards[at], (handed, told))
            self.assertIs(type(hoist), type(None) if hoist is None else list)

    def check_locker(self, handed, told):
        self.assertTrue(all(type(many) is int and many > 0 for many in told[2].values()), (handed, told))
        self.assertEqual(flags_in_all(told[2], told[1]), flags_in_all(handed[0], handed[1]), (handed, told))

    def check_papers(self, handed, lowered):
        before = copy.deepcopy(handed)
        papers = hauling_papers(*handed)
        self.assertEqual(handed, before)
        self.assertIs(type(papers), list, before)
        sets = sets_of_others(handed[1], handed[2])
        self.assertEqual([paper[0] for paper in papers], sets[:sets.index(lowered)], before)
        for paper in papers:
            self.assertIs(type(paper), tuple, before)
            self.assertEqual([type(part) for part in paper], [list, list, list], before)
            check_lack(self, *tried(*before, paper[0]), paper[1], paper[2])
        return papers

    def check_refused(self, locker, halyards, number, word, due=()):
        """due: those wants without which the flags would be enough for all others."""
        handed = (locker, halyards, number, word)
        before = copy.deepcopy(handed)
        more, words = tried(*before, sets_of_others(halyards, number)[-1])
        for ask in (hauled, hauling_papers):
            with self.assertRaises(Lack) as refusal:
                ask(*handed)
            lack = refusal.exception
            self.assertIs(type(lack), Lack)
            self.assertIsInstance(lack, TowerError)
            check_lack(self, more, words, lack.wants, lack.flags)
            self.assertEqual([want for want in due if want not in lack.wants], [], before)
            self.assertEqual(handed, before)
        return lack

    def check_sought(self, locker, halyards, number, word):
        lowered = sought(locker, halyards, number, word)
        if lowered is None:
            self.check_refused(locker, halyards, number, word)
        else:
            self.check_hauled(locker, halyards, number, word, lowered)
        return lowered


class NothingLowered(HalyardsCase):
    def test_one_halyard(self):
        self.assertEqual(self.check_hauled({"a": 1}, [None], 0, "a", []), ([], [["a"]], {}))
        self.assertEqual(self.check_hauled({"a": 2, "b": 1}, [None], 0, "ab", []), ([], [["a", "b"]], {"a": 1}))
        self.assertEqual(self.check_hauled({"b": 1}, [["a"]], 0, "b", []), ([], [["b"]], {"a": 1}))
        self.assertEqual(self.check_hauled({"w": 1}, [["v", "1"]], 0, "w", []), ([], [["w"]], {"v": 1, "1": 1}))

    def test_all_bare(self):
        for many in range(1, 7):
            for number in range(many):
                told = self.check_hauled({"a": 3, "c": 1, "b": 1}, [None] * many, number, "abc", [])
                self.assertEqual(told[1][number], ["a", "b", "c"])
                self.assertEqual([hoist for hoist in told[1] if hoist is not None], [["a", "b", "c"]])
                self.assertEqual(told[2], {"a": 2})

    def test_some_bare(self):
        halyards = [None, ["a", "1"], None, ["b", "c"], None, ["a"]]
        for number in (0, 2, 4):
            told = self.check_hauled({"d": 1}, halyards, number, "d", [])
            self.assertEqual(told[1], halyards[:number] + [["d"]] + halyards[number + 1:])
            self.assertEqual(told[2], {})

    def test_none_bare(self):
        for many in range(1, 7):
            halyards = [[letter, "1"] for letter in "abcdef"[:many]]
            for number in range(many):
                told = self.check_hauled({"w": 1}, halyards, number, "w", [])
                self.assertEqual(told[1], halyards[:number] + [["w"]] + halyards[number + 1:])
                self.assertEqual(told[2], {"abcdef"[number]: 1, "1": 1})

    def test_what_hangs_there_comes_down_first(self):
        self.check_hauled({}, [["a", "b"]], 0, "ba", [])
        self.check_hauled({}, [["a", "b"], ["a"]], 0, "a", [])
        self.check_hauled({}, [["c"], ["a", "1"], ["b"]], 1, "aa", [])
        self.assertEqual(self.check_hauled({}, [["a", "b", "c"]], 0, "b", [])[2], {"a": 1, "c": 1})

    def test_the_same_word_again(self):
        halyards = [["a", "1"], ["b"], None]
        self.assertEqual(self.check_hauled({}, halyards, 0, "aa", []), ([], halyards, {}))
        self.check_hauled({"a": 1}, halyards, 0, "aa", [])

    def test_others_stay_though_they_could_hang_otherwise(self):
        halyards = [None, ["a", "a", "a"], ["b", "1", "2"], ["a", "1"]]
        told = self.check_hauled({"a": 1, "b": 2, "1": 4, "2": 3}, halyards, 0, "ab", [])
        self.assertEqual(told[1][1:], halyards[1:])

    def test_a_locker_that_is_not_plain(self):
        told = self.check_hauled({"c": 0, "b": 1, "a": 2, "1": 0}, [None, ["c"]], 0, "b", [])
        self.assertEqual(told, ([], [["b"], ["c"]], {"a": 2}))
        self.assertEqual(self.check_hauled({"c": 0, "b": 1}, [["c"]], 0, "b", [])[2], {"c": 1})

    def test_words_of_seven_letters_on_six_halyards(self):
        halyards = [list("abcdefg") for _ in range(6)]
        told = self.check_hauled({"h": 1}, halyards, 5, "hgfedcb", [])
        self.assertEqual(told[1], halyards[:5] + [list("hgfedcb")])
        self.assertEqual(told[2], {"a": 1})

    def test_99_of_each_flag(self):
        locker = {flag: 99 for flag in FLAGS}
        told = self.check_hauled(locker, [None, None], 1, "abcdefg", [])
        self.assertEqual(told[2], {flag: 98 if flag in "abcdefg" else 99 for flag in FLAGS})


class SomeLowered(HalyardsCase):
    def test_one(self):
        told = self.check_hauled({"1": 1}, [None, ["a", "a"]], 0, "a", [1])
        self.assertEqual(told, ([1], [["a"], ["a", "1"]], {}))
        told = self.check_hauled({"b": 1, "1": 1}, [["a", "a"], ["c"]], 1, "ab", [0])
        self.assertEqual(told, ([0], [["a", "1"], ["a", "b"]], {"c": 1}))

    def test_a_substitute_is_given_free(self):
        told = self.check_hauled({"a": 1, "b": 1}, [["a", "1"], None], 1, "bb", [0])
        self.assertEqual(told, ([0], [["a", "a"], ["b", "1"]], {}))

    def test_several(self):
        halyards = [None, ["a", "a"], ["b", "b"]]
        told = self.check_hauled({"1": 2}, halyards, 0, "ab", [1, 2])
        self.assertEqual(told, ([1, 2], [["a", "b"], ["a", "1"], ["b", "1"]], {}))
        papers = hauling_papers({"1": 2}, halyards, 0, "ab")
        self.assertEqual([paper[0] for paper in papers], [[], [1], [2]])
        self.assertIn((0, 2), papers[1][1])
        self.assertIn((0, 1), papers[2][1])

    def test_all_others(self):
        for many in range(2, 7):
            letters = "abcde"[:many - 1]
            for number in range(many):
                halyards = [[letter, letter] for letter in letters]
                halyards.insert(number, None)
                others = [other for other in range(many) if other != number]
                told = self.check_hauled({"1": many - 1}, halyards, number, letters, others)
                self.assertEqual(told[1][number], list(letters))
                self.assertEqual(told[2], {})
                papers = hauling_papers({"1": many - 1}, halyards, number, letters)
                self.assertEqual(len(papers), 2 ** (many - 1) - 1)

    def test_bare_ones_are_never_lowered(self):
        told = self.check_hauled({"1": 2}, [None, None, ["a", "a"], None, None, ["b", "b"]], 3, "ba", [2, 5])
        self.assertEqual(told[1], [None, None, ["a", "1"], ["b", "a"], None, ["b", "1"]])

    def test_fewest_ahead_of_least(self):
        halyards = [["a", "a"], ["b", "b"], ["a", "b", "a", "b"], None]
        self.assertTrue(hangs(*tried({"1": 2, "2": 1}, halyards, 3, "ab", [0, 1])))
        self.check_hauled({"1": 2, "2": 1}, halyards, 3, "ab", [2])
        papers = hauling_papers({"1": 2, "2": 1}, halyards, 3, "ab")
        self.assertEqual([paper[0] for paper in papers], [[], [0], [1]])

    def test_of_two_as_small_the_least(self):
        halyards = [None, ["b", "b"], ["a", "a"], ["a", "a"]]
        self.check_hauled({"1": 1}, halyards, 0, "a", [2])
        self.assertEqual([paper[0] for paper in hauling_papers({"1": 1}, halyards, 0, "a")], [[], [1]])
        self.check_hauled({"1": 1}, [["a", "a"], ["b", "b"], ["a", "a"], None], 3, "a", [0])
        self.check_hauled({"1": 1}, [["a", "a"], ["b"], ["a", "a"]], 1, "a", [0])

    def test_of_several_larger_the_least(self):
        halyards = [None, ["c"], ["b", "b"], ["a", "a"], ["a", "a"]]
        told = self.check_hauled({"1": 2}, halyards, 0, "ab", [2, 3])
        self.assertEqual(told[1][4], ["a", "a"])
        papers = hauling_papers({"1": 2}, halyards, 0, "ab")
        lists = [[], [1], [2], [3], [4], [1, 2], [1, 3], [1, 4]]
        self.assertEqual([paper[0] for paper in papers], lists)
        self.check_hauled({"1": 2}, [["a", "a"], ["b", "b"], ["a", "a"], ["b", "b"], None], 4, "ab", [0, 1])
        self.check_hauled({"1": 2}, [["a", "a"], ["a", "a"], ["c"], ["b", "b"], ["b", "b"], None], 5, "ba", [0, 3])

    def test_what_hung_there_helps(self):
        halyards = [["c", "1"], ["a", "a"]]
        self.assertEqual(self.check_hauled({}, halyards, 0, "a", [1]), ([1], [["a"], ["a", "1"]], {"c": 1}))

    def test_substitutes_make_room(self):
        halyards = [None, ["a", "b", "a", "b"]]
        told = self.check_hauled({"1": 1, "2": 1}, halyards, 0, "ab", [1])
        self.assertEqual(told, ([1], [["a", "b"], ["a", "b", "1", "2"]], {}))
        halyards = [None, ["a", "1", "2", "3", "4"], ["b", "b"]]
        told = self.check_hauled({"a": 1}, halyards, 0, "b", [1, 2])
        self.assertEqual((told[1][0], told[1][2], told[2]), (["b"], ["b", "1"], {}))
        self.assertEqual(len(hauling_papers({"a": 1}, halyards, 0, "b")), 3)

    def test_the_others_stay(self):
        halyards = [["a", "1"], ["a", "a"], ["a", "a", "1"], None]
        told = self.check_hauled({"1": 1}, halyards, 3, "a", [1])
        self.assertEqual(told[1], [["a", "1"], ["a", "1"], ["a", "a", "1"], ["a"]])


class Refused(HalyardsCase):
    def test_one_halyard(self):
        self.check_refused({}, [None], 0, "a", [(0, 1)])
        self.check_refused({"a": 9, "1": 9}, [["b"]], 0, "c", [(0, 1)])
        self.check_refused({"a": 1}, [["b"]], 0, "aab", [(0, 1), (0, 2)])

    def test_the_words_are_this_one_then_theirs_by_rising_halyards(self):
        halyards = [["b"], ["a", "a"], None, ["c"], ["a"]]
        self.check_refused({}, halyards, 2, "a", [(0, 1), (2, 1), (2, 2), (4, 1)])
        self.check_refused({"b": 1}, halyards, 2, "bd", [(0, 2)])
        self.check_refused({"d": 1}, halyards, 4, "db", [(0, 2), (1, 1)])
        self.check_refused({"d": 1}, halyards, 0, "dc", [(0, 2), (2, 1)])
        self.check_refused({}, [["a"], ["b"], ["a", "c"]], 1, "ca")

    def test_what_hangs_there_is_not_among_the_words(self):
        self.check_refused({}, [["a", "b"], ["a"]], 0, "aa", [(0, 1), (0, 2), (1, 1)])
        self.check_refused({}, [["a"], ["b"]], 1, "a", [(0, 1), (1, 1)])

    def test_none_bare(self):
        for many in range(1, 7):
            words = ["aaa"] + ["aa"] * (many - 1)
            due = [(at, place) for at, word in enumerate(words) for place in range(1, len(word) + 1)]
            for number in range(many):
                self.check_refused({}, [["a", "1"] for _ in range(many)], number, "aaa", due)

    def test_some_bare(self):
        for many in range(1, 7):
            halyards = [None if at % 2 == 0 else ["a"] for at in range(many)]
            due = [(at, 1) for at in range(many // 2 + 1)]
            for number in range(0, many, 2):
                self.check_refused({"1": 9}, halyards, number, "aa", due)

    def test_all_bare(self):
        for many in range(1, 7):
            self.check_refused({"b": 9, "1": 9}, [None] * many, many - 1, "bab", [(0, 2)])
            self.check_refused({}, [None] * many, 0, "w", [(0, 1)])

    def test_the_papers_name_wants_of_the_words_of_their_list(self):
        papers = hauling_papers({"1": 1, "b": 1}, [["a", "a"], ["b", "b"], None], 2, "ab")
        self.assertEqual([paper[0] for paper in papers], [[]])
        self.assertIn((0, 1), papers[0][1])
        papers = hauling_papers({"1": 1}, [["b"], ["a"], ["a", "a"], None], 3, "a")
        self.assertEqual([paper[0] for paper in papers], [[], [0], [1]])
        self.assertIn((0, 1), papers[1][1])
        self.assertEqual(papers[2][1], [(0, 1), (1, 1)])


class Sought(HalyardsCase):
    def test_two_halyards(self):
        some = [None, ["a"], ["a", "a"], ["a", "1"], ["b", "a"], ["a", "b", "a"], ["a", "a", "b"]]
        sizes = Counter()
        for other in some:
            for here in some[:5]:
                for locker in lockers_of({"a": 1, "b": 1, "1": 1}):
                    for word in words_of("ab", 3):
                        lowered = self.check_sought(locker, [here, other], 0, word)
                        sizes[None if lowered is None else len(lowered)] += 1
        self.assertTrue(all(sizes[size] > 20 for size in (None, 0, 1)), sizes)

    def test_three_halyards(self):
        some = [None, ["b"], ["a", "a"], ["a", "1"], ["b", "b"]]
        for halyards in itertools.product([None, ["b"]], some, some):
            for locker in lockers_of({"a": 1, "1": 2}):
                for word in ("a", "ab", "aa", "bab"):
                    self.check_sought(locker, list(halyards), 0, word)
                    turned = [halyards[1], halyards[0], halyards[2]]
                    self.check_sought(locker, turned, 1, word)

    def test_two_to_six_halyards(self):
        chance = random.Random(19)
        some = list(words_of("ab", 3)) + ["abab", "aabb"]
        sizes = Counter()
        for _ in range(1500):
            many = chance.randrange(2, 7)
            halyards = [hoist_by_chance(chance, chance.choice(some)) for _ in range(many)]
            number = chance.randrange(many)
            halyards[number] = chance.choice([None, halyards[number]])
            if chance.randrange(3) == 0:
                halyards[chance.randrange(many)] = None
            locker = {flag: chance.randrange(2) for flag in "ab12"}
            lowered = self.check_sought(locker, halyards, number, chance.choice(some))
            sizes[None if lowered is None else len(lowered)] += 1
        self.assertTrue(all(sizes[size] > 5 for size in (None, 0, 1, 2)), sizes)

    def test_rows_of_words(self):
        """Word upon word: each hoist is read back to just its word, and no flag is ever lost or won."""
        chance = random.Random(20)
        for many in range(1, 7):
            locker, halyards = {"a": 5, "b": 3, "c": 2, "1": 3, "2": 2, "3": 1}, [None] * many
            words, in_all = [None] * many, flags_in_all(locker, halyards)
            for _ in range(60):
                number, word = chance.randrange(many), "".join(chance.choices("aabbc", k=chance.randrange(1, 8)))
                try:
                    told = hauled(locker, halyards, number, word)
                except Lack as lack:
                    check_lack(self, *tried(locker, halyards, number, word, sets_of_others(halyards, number)[-1]),
                               lack.wants, lack.flags)
                    continue
                self.check_hauled(locker, halyards, number, word, told[0])
                halyards, locker, words[number] = told[1], told[2], word
                self.assertEqual([hoist and word_of(hoist) for hoist in halyards], words)
                self.assertEqual(flags_in_all(locker, halyards), in_all)


class Own(HalyardsCase):
    def test_what_is_handed_in_may_change_later(self):
        locker, halyards = {"1": 1, "c": 1}, [None, ["a", "a"], ["b", "c"]]
        told, papers = hauled(locker, halyards, 0, "a"), hauling_papers(locker, halyards, 0, "a")
        before = copy.deepcopy((told, papers))
        locker["c"] = 7
        halyards[1].append("w")
        halyards[2].clear()
        halyards.append(None)
        self.assertEqual((told, papers), before)

    def test_what_is_told_may_be_changed(self):
        for lowered, locker in (([1], {"1": 1, "c": 1}), ([], {"a": 1, "c": 1})):
            halyards = [["b"], ["a", "a"], ["b", "c"], None]
            handed = copy.deepcopy((locker, halyards))
            told = self.check_hauled(locker, halyards, 0, "a", lowered)
            before = copy.deepcopy(told)
            told[0].append(5)
            told[2]["a"] = 50
            for hoist in told[1][:3]:
                hoist.append("w")
            told[1].clear()
            self.assertEqual((locker, halyards), handed)
            self.assertEqual(hauled(locker, halyards, 0, "a"), before)

    def test_papers_may_be_changed(self):
        locker, halyards = {"1": 2}, [None, ["a", "a"], ["b", "b"]]
        papers = hauling_papers(locker, halyards, 0, "ab")
        before = copy.deepcopy(papers)
        for part in papers[1]:
            part.clear()
        self.assertEqual([papers[0], papers[2]], [before[0], before[2]])
        papers.clear()
        self.assertEqual((locker, halyards), ({"1": 2}, [None, ["a", "a"], ["b", "b"]]))
        self.assertEqual(hauling_papers(locker, halyards, 0, "ab"), before)

    def test_refusals_may_be_changed(self):
        locker, halyards = {"b": 1}, [["b"], ["a", "1"]]
        lack = self.check_refused(locker, halyards, 0, "aa")
        before = copy.deepcopy((lack.wants, lack.flags))
        lack.wants.clear()
        lack.flags.clear()
        again = self.check_refused(locker, halyards, 0, "aa")
        self.assertEqual((again.wants, again.flags), before)


if __name__ == "__main__":
    unittest.main()
