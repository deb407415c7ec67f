"""Points 29 to 32, and of points 2 and 3 what concerns the tower."""

import copy
import random
import re
import unittest
from collections import Counter

from counting import FLAGS, LETTERS, all_cuts, best_cut, book_of, check_lack, checked_by_count, checked_from
from counting import flags_due, flags_in_all, hangs, reads_to, sets_of_others, sought, tried, word_of, words_of
from flaglocker.errors import Lack, NoCut, NoDeed, NoFlag, NoHalyard, NoText, NoWord, Short, TowerError
from flaglocker.tower import Tower

BOOK = [("a", "go"), ("b", "north"), ("ab", "go north"), ("ba", "wait"), ("abba", "stop right now")]
THINGS = {"haul": 3, "lower": 2, "lose": 2, "find": 2, "say": 2}
FIELDS = {Short: "flag", NoWord: "at", NoCut: "terms"}
NO_TEXTS = ("", " ", "go ", " go", "go  north", "Go", "go1", "go\nnorth", "a" * 11, "go-north", "\u00e4",
            " ".join(["go"] * 41))
NO_FLAGS = ("", "x", "z", "A", "0", "5", "-", "?", " ", "aa", "ab", "12", "a ", " a", "\n", "\u0661", FLAGS)
NOT_CHECKED = ("", "a", "w", "ab", "lb", "aab", "hba", "abhh", "aaaaaaaa", "ax", "xx", "AA", "Abh", "abh ", " abh",
               "a1", "ab1", "11", "-", "abh\n", "a a", "go north")


def seen_of(tower):
    """All that can be asked of a tower."""
    return copy.deepcopy((tower.halyards(), tower.locker(), tower.log(), tower.read()))


def words_hung(halyards):
    return [None if hoist is None else word_of(hoist) for hoist in halyards]


def is_checked_word(text):
    return re.fullmatch("[a-w]{2,7}", text) is not None and checked_by_count(text)


def most_terms_cut(book, terms):
    return max(many for many in range(len(terms) + 1) if all_cuts(book, terms[:many]))


def said_words(book, many, text):
    """The words that a text is to hang on so many halyards, or the refusal of point 22 or 30 with its field."""
    if not re.fullmatch("[a-z]{1,10}( [a-z]{1,10}){0,39}", text):
        return (NoText, None), None
    cuts = all_cuts(book, text.split(" "))
    if not cuts:
        return (NoCut, most_terms_cut(book, text.split(" "))), None
    words = [checked_from(book[number][0]) for number in best_cut(book, cuts)]
    return ((NoHalyard, None), None) if len(words) > many else (None, words)


def refusal_due(book, halyards, locker, deed):
    """The first refusal that is due, with its field, sought as points 19, 22 and 30 tell; None where none is."""
    if not deed or THINGS.get(deed[0]) != len(deed):
        return NoDeed, None
    if deed[0] in ("haul", "lower") and deed[1] not in range(len(halyards)):
        return NoHalyard, None
    if deed[0] == "haul" and not is_checked_word(deed[2]):
        return NoWord, 0
    if deed[0] in ("lose", "find") and deed[1] not in list(FLAGS):
        return NoFlag, None
    if deed[0] == "lose" and locker.get(deed[1], 0) == 0:
        return Short, deed[1]
    if deed[0] == "find" and flags_in_all(locker, halyards).get(deed[1], 0) == 99:
        return NoFlag, None
    if deed[0] == "say":
        refusal, words = said_words(book, len(halyards), deed[1])
        return refusal or (None if hangs(flags_in_all(locker, halyards), words) else (Lack, None))
    if deed[0] == "haul" and sought(locker, halyards, deed[1], deed[2]) is None:
        return Lack, None
    return None


class TowerCase(unittest.TestCase):
    def check_done(self, tower, deed, book=BOOK):
        halyards, locker, log, _ = seen_of(tower)
        told = (halyards, locker, deed)
        self.assertIs(tower.do(deed), None)
        self.assertEqual(tower.log(), log + [deed], told)
        self.assertEqual(flags_in_all(tower.locker(), tower.halyards()), flags_due(locker, halyards, deed), told)
        self.assertTrue(all(type(many) is int and many > 0 for many in tower.locker().values()), told)
        self.assertEqual(len(tower.halyards()), len(halyards))
        self.check_hung(tower, deed, halyards, locker, book)
        self.check_read(tower, book)

    def check_hung(self, tower, deed, halyards, locker, book):
        """Each halyard, flag by flag where it stays, else by its word."""
        words, rehung = words_hung(halyards), []
        if deed[0] == "haul":
            words[deed[1]] = deed[2]
            rehung = [deed[1]] + sought(locker, halyards, deed[1], deed[2])
        elif deed[0] == "lower":
            words[deed[1]] = None
            rehung = [deed[1]]
        elif deed[0] == "say":
            said = said_words(book, len(halyards), deed[1])[1]
            words = said + [None] * (len(halyards) - len(said))
            rehung = range(len(halyards))
        for at, hoist in enumerate(tower.halyards()):
            if at not in rehung:
                self.assertEqual(hoist, halyards[at], (halyards, locker, deed))
            elif words[at] is None:
                self.assertIs(hoist, None, (halyards, locker, deed))
            else:
                self.assertIs(type(hoist), list)
                self.assertTrue(reads_to(hoist, words[at]), (halyards, locker, deed, hoist))

    def check_read(self, tower, book):
        checked = [checked_from(word) for word, _ in book]
        due = [checked.index(word) if word in checked else None for word in words_hung(tower.halyards())]
        self.assertEqual(tower.read(), due)
        self.assertTrue(all(type(number) in (int, type(None)) for number in tower.read()))

    def check_refused(self, tower, deed, error, field=None):
        before, handed = seen_of(tower), copy.deepcopy(deed)
        with self.assertRaises(error, msg=(before, deed)) as refusal:
            tower.do(deed)
        self.assertIs(type(refusal.exception), error)
        self.assertIsInstance(refusal.exception, TowerError)
        if error in FIELDS:
            told = getattr(refusal.exception, FIELDS[error])
            self.assertIs(type(told), type(field))
            self.assertEqual(told, field, (before, deed))
        self.assertEqual(seen_of(tower), before, deed)
        self.assertEqual(deed, handed)
        return refusal.exception

    def check_haul_lack(self, tower, number, word):
        halyards, locker, _, _ = seen_of(tower)
        lack = self.check_refused(tower, ("haul", number, word), Lack)
        all_others = sets_of_others(halyards, number)[-1]
        check_lack(self, *tried(locker, halyards, number, word, all_others), lack.wants, lack.flags)
        return lack

    def check_say_lack(self, tower, text, words):
        halyards, locker, _, _ = seen_of(tower)
        lack = self.check_refused(tower, ("say", text), Lack)
        check_lack(self, flags_in_all(locker, halyards), words, lack.wants, lack.flags)
        return lack

    def check_same(self, one, other):
        self.assertEqual(seen_of(one), seen_of(other))


class Making(TowerCase):
    def test_bare_at_first(self):
        for many in range(1, 7):
            tower = Tower(BOOK, {"a": 2, "b": 0, "1": 1}, many)
            self.assertEqual(seen_of(tower), ([None] * many, {"a": 2, "1": 1}, [], [None] * many))

    def test_no_flags(self):
        for locker in ({}, {"a": 0}, dict.fromkeys(FLAGS, 0)):
            self.assertEqual(seen_of(Tower(BOOK, locker, 2)), ([None, None], {}, [], [None, None]))

    def test_the_books_words_that_the_tests_reckon_with(self):
        self.assertEqual([checked_from(word) for word, _ in BOOK], ["aa", "bl", "abh", "bap", "abbaw"])


class Haul(TowerCase):
    def test_on_each_halyard(self):
        for many in range(1, 7):
            for number in range(many):
                tower = Tower(BOOK, {"a": 2, "b": 1, "h": 1}, many)
                self.check_done(tower, ("haul", number, "abh"))
                halyards = [None] * many
                halyards[number] = ["a", "b", "h"]
                log, read = [("haul", number, "abh")], [2 if at == number else None for at in range(many)]
                self.assertEqual(seen_of(tower), (halyards, {"a": 1}, log, read))

    def test_with_substitutes(self):
        tower = Tower(BOOK, {"a": 1, "1": 1}, 2)
        self.check_done(tower, ("haul", 0, "aa"))
        self.assertEqual(seen_of(tower), ([["a", "1"], None], {}, [("haul", 0, "aa")], [0, None]))

    def test_a_word_that_is_not_in_the_book(self):
        tower = Tower(BOOK, {"c": 1, "w": 1}, 2)
        self.check_done(tower, ("haul", 1, "cw"))
        self.assertEqual(seen_of(tower), ([None, ["c", "w"]], {}, [("haul", 1, "cw")], [None, None]))

    def test_what_hangs_there_comes_down_first(self):
        tower = Tower(BOOK, {"a": 1, "b": 1, "h": 1, "p": 1}, 1)
        self.check_done(tower, ("haul", 0, "abh"))
        self.check_done(tower, ("haul", 0, "bap"))
        self.assertEqual(seen_of(tower), ([["b", "a", "p"]], {"h": 1}, [("haul", 0, "abh"), ("haul", 0, "bap")], [3]))

    def test_the_same_word_once_more(self):
        tower = Tower(BOOK, {"a": 1, "b": 1, "h": 1}, 2)
        for _ in range(3):
            self.check_done(tower, ("haul", 0, "abh"))
        self.assertEqual(tower.halyards(), [["a", "b", "h"], None])
        self.assertEqual(tower.log(), [("haul", 0, "abh")] * 3)

    def test_another_one_is_hung_otherwise(self):
        tower = Tower(BOOK, {"a": 2, "b": 1, "h": 1}, 3)
        self.check_done(tower, ("haul", 1, "aa"))
        self.assertEqual(tower.halyards(), [None, ["a", "a"], None])
        self.check_done(tower, ("find", "1"))
        self.check_done(tower, ("haul", 0, "abh"))
        self.assertEqual(tower.halyards(), [["a", "b", "h"], ["a", "1"], None])
        self.assertEqual(tower.locker(), {})
        self.assertEqual(tower.read(), [2, 0, None])

    def test_the_fewest_and_least_are_lowered(self):
        tower = Tower(BOOK, {"a": 6, "b": 1, "h": 1}, 5)
        for number in (0, 2, 3):
            self.check_done(tower, ("haul", number, "aa"))
        self.check_done(tower, ("find", "1"))
        self.check_done(tower, ("haul", 4, "abh"))
        self.assertEqual(tower.halyards(), [["a", "1"], None, ["a", "a"], ["a", "a"], ["a", "b", "h"]])

    def test_words_of_two_to_seven_letters(self):
        for word in ("a", "ab", "abc", "abca", "abcab", "abcabc", "wwwwww"):
            tower = Tower(BOOK, {flag: 7 for flag in FLAGS}, 2)
            self.check_done(tower, ("haul", 1, checked_from(word)))

    def test_what_cant_hang(self):
        tower = Tower(BOOK, {"a": 1, "b": 1, "h": 1}, 3)
        lack = self.check_haul_lack(tower, 0, "aa")
        self.assertEqual((lack.wants, lack.flags[:1]), ([(0, 1), (0, 2)], ["a"]))
        self.check_done(tower, ("haul", 2, "abh"))
        self.check_haul_lack(tower, 0, "abh")
        self.check_haul_lack(tower, 1, "bap")
        self.check_haul_lack(tower, 2, "aa")
        self.check_haul_lack(Tower(BOOK, {}, 1), 0, "aaaaaaa")

    def test_wants_of_what_cant_hang_name_the_others_too(self):
        tower = Tower(BOOK, {"a": 2, "b": 1, "h": 1, "l": 1}, 4)
        self.check_done(tower, ("haul", 3, "aa"))
        self.check_done(tower, ("haul", 1, "bl"))
        lack = self.check_haul_lack(tower, 0, "abh")
        self.assertTrue({(0, 1), (2, 1), (2, 2)} <= set(lack.wants) or {(0, 2), (1, 1)} <= set(lack.wants), lack.wants)

    def test_refused_in_order(self):
        tower = Tower(BOOK, {"b": 1, "l": 1}, 2)
        self.check_done(tower, ("haul", 1, "bl"))
        for number in (2, 3, 6, 99, -1, -2, 10 ** 59):
            for word in ("aa", "bl", "ab", "", "xx"):
                self.check_refused(tower, ("haul", number, word), NoHalyard)
        for word in NOT_CHECKED:
            for number in (0, 1):
                self.check_refused(tower, ("haul", number, word), NoWord, 0)
        self.check_haul_lack(tower, 0, "aa")

    def test_halyards_that_are_not_there(self):
        for many in range(1, 7):
            tower = Tower(BOOK, {"a": 9}, many)
            self.check_done(tower, ("haul", many - 1, "aa"))
            for number in (-many, -1, many, many + 1):
                self.check_refused(tower, ("haul", number, "aa"), NoHalyard)

    def test_all_words_of_one_and_two_letters(self):
        for word in words_of(LETTERS, 2):
            tower = Tower(BOOK, {flag: 2 for flag in LETTERS}, 1)
            if checked_by_count(word):
                self.check_done(tower, ("haul", 0, word))
            else:
                self.check_refused(tower, ("haul", 0, word), NoWord, 0)


class Lower(TowerCase):
    def test_a_hoist(self):
        tower = Tower(BOOK, {"a": 4, "b": 1, "h": 1, "1": 1}, 3)
        self.check_done(tower, ("haul", 2, "abh"))
        self.check_done(tower, ("haul", 0, "aa"))
        self.check_done(tower, ("lower", 2))
        self.assertEqual(words_hung(tower.halyards()), ["aa", None, None])
        self.assertEqual(tower.log(), [("haul", 2, "abh"), ("haul", 0, "aa"), ("lower", 2)])
        self.check_done(tower, ("lower", 0))
        self.assertEqual(tower.halyards(), [None, None, None])
        self.assertEqual(tower.locker(), {"a": 4, "b": 1, "h": 1, "1": 1})

    def test_a_bare_one_stays_bare(self):
        tower = Tower(BOOK, {"a": 2}, 2)
        self.check_done(tower, ("lower", 0))
        self.check_done(tower, ("haul", 1, "aa"))
        self.check_done(tower, ("lower", 0))
        self.assertEqual(tower.halyards(), [None, ["a", "a"]])
        self.assertEqual(tower.locker(), {})
        self.assertEqual(tower.log(), [("lower", 0), ("haul", 1, "aa"), ("lower", 0)])

    def test_halyards_that_are_not_there(self):
        for many in range(1, 7):
            tower = Tower(BOOK, {"a": 12}, many)
            for number in range(many):
                self.check_done(tower, ("haul", number, "aa"))
            for number in (-many - 1, -many, -1, many, many + 1, 99, 10 ** 59):
                self.check_refused(tower, ("lower", number), NoHalyard)
            for number in range(many):
                self.check_done(tower, ("lower", number))
            self.assertEqual(tower.locker(), {"a": 12})


class LoseAndFind(TowerCase):
    def test_each_flag(self):
        for flag in FLAGS:
            tower = Tower(BOOK, {flag: 2}, 1)
            self.check_done(tower, ("lose", flag))
            self.assertEqual(tower.locker(), {flag: 1})
            self.check_done(tower, ("lose", flag))
            self.assertEqual(tower.locker(), {})
            self.check_refused(tower, ("lose", flag), Short, flag)
            self.check_done(tower, ("find", flag))
            self.assertEqual(tower.locker(), {flag: 1})
            self.assertEqual(tower.log(), [("lose", flag), ("lose", flag), ("find", flag)])

    def test_other_flags_stay(self):
        tower = Tower(BOOK, {"a": 1, "b": 1, "1": 1}, 1)
        self.check_done(tower, ("lose", "b"))
        self.check_done(tower, ("find", "c"))
        self.assertEqual(tower.locker(), {"a": 1, "c": 1, "1": 1})

    def test_no_flags(self):
        tower = Tower(BOOK, {"a": 3}, 1)
        for text in NO_FLAGS:
            self.check_refused(tower, ("lose", text), NoFlag)
            self.check_refused(tower, ("find", text), NoFlag)

    def test_a_flag_that_hangs_is_not_lost(self):
        tower = Tower(BOOK, {"a": 2, "b": 1}, 2)
        self.check_done(tower, ("haul", 0, "aa"))
        self.check_refused(tower, ("lose", "a"), Short, "a")
        self.check_done(tower, ("lose", "b"))
        self.check_done(tower, ("lower", 0))
        self.check_done(tower, ("lose", "a"))

    def test_found_up_to_99(self):
        for flag in "aw14":
            tower = Tower(BOOK, {flag: 97}, 1)
            self.check_done(tower, ("find", flag))
            self.check_done(tower, ("find", flag))
            self.assertEqual(tower.locker(), {flag: 99})
            self.check_refused(tower, ("find", flag), NoFlag)
            self.check_done(tower, ("find", "b"))
            self.check_done(tower, ("lose", flag))
            self.check_done(tower, ("find", flag))
            self.check_refused(tower, ("find", flag), NoFlag)

    def test_99_in_locker_and_halyards_together(self):
        tower = Tower(BOOK, {"a": 98}, 3)
        self.check_done(tower, ("haul", 0, "aa"))
        self.check_done(tower, ("haul", 2, "aaa"))
        self.assertEqual(tower.locker(), {"a": 93})
        self.check_done(tower, ("find", "a"))
        self.assertEqual(tower.locker(), {"a": 94})
        self.check_refused(tower, ("find", "a"), NoFlag)
        self.check_done(tower, ("find", "1"))
        self.check_done(tower, ("lower", 2))
        self.check_refused(tower, ("find", "a"), NoFlag)
        self.check_done(tower, ("lose", "a"))
        self.check_done(tower, ("find", "a"))

    def test_a_substitute_counts_as_itself(self):
        tower = Tower(BOOK, {"a": 1, "1": 99}, 1)
        self.check_done(tower, ("haul", 0, "aa"))
        self.assertEqual(tower.locker(), {"1": 98})
        self.check_refused(tower, ("find", "1"), NoFlag)
        for _ in range(98):
            tower.do(("find", "a"))
        self.check_refused(tower, ("find", "a"), NoFlag)


class Say(TowerCase):
    def test_one_word(self):
        for many in range(1, 7):
            tower = Tower(BOOK, {"a": 3, "b": 3, "h": 1}, many)
            self.check_done(tower, ("say", "go north"))
            self.assertEqual(tower.halyards(), [["a", "b", "h"]] + [None] * (many - 1))
            self.assertEqual(tower.locker(), {"a": 2, "b": 2})
            self.assertEqual(tower.read(), [2] + [None] * (many - 1))
            self.assertEqual(tower.log(), [("say", "go north")])

    def test_as_many_words_as_halyards(self):
        for many in range(1, 7):
            tower = Tower(BOOK, {"b": 6, "l": 6}, many)
            self.check_done(tower, ("say", " ".join(["north"] * many)))
            self.assertEqual(tower.halyards(), [["b", "l"]] * many)
            self.assertEqual(tower.read(), [1] * many)

    def test_the_fewest_words(self):
        tower = Tower(BOOK, {flag: 5 for flag in FLAGS}, 6)
        self.check_done(tower, ("say", "go go north north wait go north"))
        self.assertEqual(tower.read(), [0, 2, 1, 3, 2, None])

    def test_all_halyards_are_lowered(self):
        tower = Tower(BOOK, {"a": 3, "b": 1, "h": 1, "p": 1, "1": 1}, 3)
        self.check_done(tower, ("haul", 2, "aa"))
        self.check_done(tower, ("haul", 1, "abh"))
        self.check_done(tower, ("say", "wait"))
        self.assertEqual(words_hung(tower.halyards()), ["bap", None, None])
        self.assertEqual(flags_in_all(tower.locker(), tower.halyards()), {"a": 3, "b": 1, "h": 1, "p": 1, "1": 1})
        self.check_done(tower, ("say", "go"))
        self.assertEqual(words_hung(tower.halyards()), ["aa", None, None])

    def test_flags_that_hang_are_used(self):
        tower = Tower(BOOK, {"a": 1, "b": 1, "h": 1, "p": 1}, 2)
        self.check_done(tower, ("haul", 1, "abh"))
        self.check_done(tower, ("say", "wait"))
        self.assertEqual(seen_of(tower)[:2], ([["b", "a", "p"], None], {"h": 1}))
        self.check_done(tower, ("say", "go north"))
        self.assertEqual(seen_of(tower)[:2], ([["a", "b", "h"], None], {"p": 1}))

    def test_with_substitutes(self):
        tower = Tower(BOOK, {"a": 2, "b": 1, "h": 1, "1": 1}, 2)
        self.check_done(tower, ("say", "go go north"))
        self.assertEqual(seen_of(tower)[:2], ([["a", "1"], ["a", "b", "h"]], {}))

    def test_words_of_six_letters(self):
        book = [("aaaaaa", "go"), ("abcabc", "a b c d e")]
        tower = Tower(book, {"a": 3, "b": 1, "c": 1, "d": 1, "1": 3, "2": 3, "3": 3, "4": 2}, 3)
        self.check_done(tower, ("say", "go a b c d e"), book)
        self.assertEqual(tower.read(), [0, 1, None])

    def test_no_texts(self):
        tower = Tower(BOOK, {"a": 2}, 1)
        for text in NO_TEXTS:
            self.check_refused(tower, ("say", text), NoText)

    def test_no_cuts(self):
        tower = Tower(BOOK, {"a": 2}, 1)
        self.check_done(tower, ("haul", 0, "aa"))
        for text, terms in (("south", 0), ("go south", 1), ("go north south", 2), ("stop right", 0), ("go stop", 1),
                            ("go north go stop right", 3), ("x" * 10, 0), (" ".join(["go"] * 39 + ["x"]), 39)):
            self.check_refused(tower, ("say", text), NoCut, terms)

    def test_more_words_than_halyards(self):
        for many in range(1, 7):
            tower = Tower(BOOK, {flag: 99 for flag in FLAGS}, many)
            self.check_done(tower, ("haul", many - 1, "aa"))
            for words in (many + 1, many + 2, 40):
                self.check_refused(tower, ("say", " ".join(["go"] * words)), NoHalyard)
            self.check_done(tower, ("say", " ".join(["go north"] * many)))

    def test_what_cant_hang(self):
        tower = Tower(BOOK, {"a": 2, "b": 1, "h": 1, "l": 1}, 3)
        self.check_done(tower, ("haul", 2, "bl"))
        lack = self.check_say_lack(tower, "wait", ["bap"])
        self.assertEqual([want for want in lack.wants if want == (0, 3)], [(0, 3)])
        self.check_say_lack(tower, "go go north", ["aa", "abh"])
        self.check_say_lack(tower, "north go north", ["bl", "abh"])
        self.check_say_lack(tower, "stop right now", ["abbaw"])
        self.check_done(tower, ("say", "go north"))

    def test_the_words_of_the_deed_alone_are_named(self):
        tower = Tower(BOOK, {"a": 2, "b": 1, "l": 1}, 3)
        self.check_done(tower, ("haul", 0, "aa"))
        lack = self.check_say_lack(tower, "north north", ["bl", "bl"])
        self.assertEqual({number for number, _ in lack.wants}, {0, 1})

    def test_refused_in_order(self):
        tower = Tower(BOOK, {}, 1)
        self.check_refused(tower, ("say", "go  go south"), NoText)
        self.check_refused(tower, ("say", "go " * 40 + "south"), NoText)
        self.check_refused(tower, ("say", "go wait south"), NoCut, 2)
        self.check_refused(tower, ("say", "go wait"), NoHalyard)
        self.check_say_lack(tower, "go", ["aa"])


class NoDeeds(TowerCase):
    def check_no_deed(self, deed):
        tower = Tower(BOOK, {"a": 4, "b": 2}, 2)
        self.check_done(tower, ("haul", 1, "aa"))
        self.check_refused(tower, deed, NoDeed)

    def test_none(self):
        self.check_no_deed(())

    def test_other_first_words(self):
        for first in ("", "hoist", "Haul", "HAUL", "haul ", " haul", "raise", "read", "log", "halyards", "locker",
                      "again", "sight", "check", "cut", "h", "lowe", "lowered", 0, 1, 2, 3, -1):
            for rest in ((), (0,), ("a",), (0, "aa"), ("go north",), (0, "aa", 0)):
                self.check_no_deed((first,) + rest)

    def test_more_or_fewer_things(self):
        for first, things in THINGS.items():
            for many in range(6):
                for thing in (0, "a", "aa", "go"):
                    if many + 1 != things:
                        self.check_no_deed((first,) + (thing,) * many)

    def test_the_first_word_stands_elsewhere(self):
        self.check_no_deed((0, "lower"))
        self.check_no_deed(("a", "lose"))
        self.check_no_deed((0, "aa", "haul"))
        self.check_no_deed(("aa", "haul", 0))

    def test_ahead_of_all_else(self):
        for deed in (("haul", 9), ("haul", 9, "ab", "x"), ("lower", 9, 9), ("lose", "x", "x"), ("find", "x", "x"),
                     ("say", "no  text", "x"), ("raise", 9, "ab"), ("haul", 9, "")[:2], ("lose",), ("say",)):
            self.check_no_deed(deed)


class Log(TowerCase):
    DEEDS = [("haul", 1, "aa"), ("find", "1"), ("lower", 0), ("say", "go north"), ("haul", 2, "aa"), ("lose", "b"),
             ("haul", 1, "bl"), ("lower", 2), ("say", "go wait"), ("find", "b"), ("haul", 1, "cw")]
    LOCKER = {"a": 4, "b": 3, "c": 1, "h": 1, "l": 1, "p": 1, "w": 1, "1": 1}

    def tower_done(self):
        tower = Tower(BOOK, self.LOCKER, 3)
        for deed in self.DEEDS:
            self.check_done(tower, deed)
        return tower

    def test_all_that_were_done(self):
        tower = self.tower_done()
        self.assertEqual(tower.log(), self.DEEDS)
        self.assertEqual([type(deed) for deed in tower.log()], [tuple] * len(self.DEEDS))

    def test_what_is_refused_is_not_in_it(self):
        tower = self.tower_done()
        for deed, error in ((("lower", 3), NoHalyard), (("lose", "x"), NoFlag), (("say", ""), NoText), ((), NoDeed)):
            self.check_refused(tower, deed, error)
        self.assertEqual(tower.log(), self.DEEDS)

    def test_done_again(self):
        tower = self.tower_done()
        before = seen_of(tower)
        other = tower.again()
        self.assertIs(type(other), Tower)
        self.assertIsNot(other, tower)
        self.check_same(other, tower)
        self.assertEqual(seen_of(tower), before)
        self.check_same(other.again().again(), tower)

    def test_no_deeds_done_again(self):
        tower = Tower(BOOK, {"a": 2, "b": 0}, 4)
        self.assertEqual(seen_of(tower.again()), ([None] * 4, {"a": 2}, [], [None] * 4))

    def test_done_again_by_a_tower_with_an_alike_locker(self):
        tower = self.tower_done()
        turned = dict(reversed(list(self.LOCKER.items())))
        for locker in (turned, dict(self.LOCKER, d=0), {flag: self.LOCKER.get(flag, 0) for flag in reversed(FLAGS)}):
            other = Tower(list(BOOK), locker, 3)
            for deed in tower.log():
                self.check_done(other, deed)
            self.check_same(other, tower)

    def test_what_is_done_behind_touches_one_tower_alone(self):
        tower = self.tower_done()
        before = seen_of(tower)
        other = tower.again()
        self.check_done(other, ("lower", 1))
        self.check_done(other, ("lose", "a"))
        self.assertEqual(seen_of(tower), before)
        third = tower.again()
        self.check_done(tower, ("find", "w"))
        self.check_done(tower, ("say", "go"))
        self.assertEqual(seen_of(third), before)
        self.assertEqual(other.log(), self.DEEDS + [("lower", 1), ("lose", "a")])
        self.check_same(other.again(), other)
        self.check_same(tower.again(), tower)


class Read(TowerCase):
    def test_words_of_the_book(self):
        tower = Tower(BOOK, {flag: 9 for flag in FLAGS}, 6)
        self.assertEqual(tower.read(), [None] * 6)
        for number, word in ((0, "abbaw"), (2, "aa"), (5, "bl"), (3, "bap"), (1, "abh")):
            self.check_done(tower, ("haul", number, word))
        self.assertEqual(tower.read(), [4, 2, 0, 3, None, 1])
        self.check_done(tower, ("haul", 4, "bl"))
        self.assertEqual(tower.read(), [4, 2, 0, 3, 1, 1])
        self.check_done(tower, ("lower", 0))
        self.assertEqual(tower.read(), [None, 2, 0, 3, 1, 1])

    def test_words_that_are_not_in_the_book(self):
        tower = Tower(BOOK, {flag: 9 for flag in FLAGS}, 6)
        for number, word in enumerate(("cw", "aaa", "abhdv", "aabg", "bapa", "bbbk")):
            word = word if checked_by_count(word) else checked_from(word)
            self.check_done(tower, ("haul", number, word))
        self.assertEqual(tower.read(), [None] * 6)

    def test_a_checked_word_that_is_in_the_book_without_its_check_letter(self):
        book = [("abh", "go"), ("ab", "north"), ("aa", "on")]
        tower = Tower(book, {flag: 9 for flag in FLAGS}, 3)
        self.check_done(tower, ("haul", 0, "abh"), book)
        self.check_done(tower, ("haul", 1, "aa"), book)
        self.check_done(tower, ("haul", 2, "aaa"), book)
        self.assertEqual(tower.read(), [1, None, 2])

    def test_hoists_with_substitutes(self):
        tower = Tower(BOOK, {"a": 1, "b": 1, "w": 1, "1": 2, "2": 2}, 2)
        self.check_done(tower, ("haul", 1, "abbaw"))
        self.assertEqual(tower.read(), [None, 4])

    def test_a_book_of_sixty(self):
        book = book_of(60)
        tower = Tower(book, {flag: 30 for flag in FLAGS}, 6)
        for number, (word, _) in enumerate(book):
            self.check_done(tower, ("haul", number % 6, checked_from(word)), book)
            self.assertEqual(tower.read()[number % 6], number)


class Own(TowerCase):
    LOCKER = {"a": 4, "b": 2, "h": 1, "l": 1, "p": 1, "1": 1}

    def tower_done(self):
        tower = Tower(BOOK, self.LOCKER, 3)
        self.check_done(tower, ("haul", 0, "abh"))
        self.check_done(tower, ("haul", 2, "aa"))
        return tower

    def test_what_is_handed_in_is_not_changed(self):
        book, locker = copy.deepcopy(BOOK), dict(self.LOCKER, c=0)
        tower = Tower(book, locker, 3)
        for deed in (("haul", 0, "abh"), ("find", "c"), ("lose", "b"), ("say", "go wait"), ("lower", 0)):
            tower.do(deed)
        tower.again()
        self.assertEqual((book, locker), (BOOK, dict(self.LOCKER, c=0)))

    def test_what_was_handed_in_may_be_changed(self):
        for turn in ("clear", "change"):
            book, locker = copy.deepcopy(BOOK), dict(self.LOCKER)
            tower = Tower(book, locker, 3)
            if turn == "clear":
                book.clear()
                locker.clear()
            else:
                book.reverse()
                locker.update({"a": 1, "w": 50})
            self.check_done(tower, ("haul", 0, "abh"))
            self.check_done(tower, ("haul", 2, "aa"))
            self.check_same(tower, self.tower_done())
            self.check_same(tower.again(), tower)
            self.check_done(tower, ("say", "go wait"))
            self.assertEqual(tower.read(), [0, 3, None])

    def test_what_was_told_may_be_changed(self):
        tower = self.tower_done()
        before = seen_of(tower)
        halyards, locker, log, read = tower.halyards(), tower.locker(), tower.log(), tower.read()
        halyards[0].append("w")
        halyards[2].clear()
        halyards[1] = ["a"]
        halyards.append(None)
        locker.update({"a": 50, "w": 1})
        log.append(("lower", 0))
        log[0] = ("lower", 1)
        read[0] = 7
        read.clear()
        self.assertEqual(seen_of(tower), before)
        self.check_same(tower.again(), tower)
        tower.halyards().clear()
        tower.locker().clear()
        tower.log().clear()
        self.assertEqual(seen_of(tower), before)

    def test_what_was_told_stays(self):
        tower = self.tower_done()
        before = seen_of(tower)
        told = (tower.halyards(), tower.locker(), tower.log(), tower.read())
        for deed in (("haul", 0, "aa"), ("lower", 2), ("lose", "a"), ("find", "w"), ("say", "go north")):
            self.check_done(tower, deed)
        self.assertEqual(told, before)

    def test_refusals_may_be_changed(self):
        tower = self.tower_done()
        for deed in (("haul", 1, "abbaw"), ("say", "stop right now")):
            lack = self.check_refused(tower, deed, Lack)
            before = copy.deepcopy((lack.wants, lack.flags))
            lack.wants.clear()
            lack.flags.clear()
            again = self.check_refused(tower, deed, Lack)
            self.assertEqual((again.wants, again.flags), before)

    def test_two_towers_of_the_same_lists(self):
        book, locker = copy.deepcopy(BOOK), dict(self.LOCKER)
        one, other = Tower(book, locker, 3), Tower(book, locker, 3)
        at_first = seen_of(other)
        for deed in (("haul", 0, "abh"), ("haul", 2, "aa"), ("lose", "b"), ("find", "w"), ("say", "go wait")):
            self.check_done(one, deed)
            self.assertEqual(seen_of(other), at_first)
        behind = seen_of(one)
        for deed in (("haul", 1, "aa"), ("lower", 1), ("find", "c")):
            self.check_done(other, deed)
            self.assertEqual(seen_of(one), behind)
        self.assertEqual((book, locker), (BOOK, self.LOCKER))


class ByChance(TowerCase):
    TERMS = ("go", "north", "wait", "stop right now", "go north", "south", "stop")

    def deed_by_chance(self, chance, many):
        number = chance.choice(list(range(many)) * 3 + [-1, many])
        word = chance.choice([checked_from(word) for word, _ in BOOK] * 2 + ["cw", "aab", "ab", "abax", ""])
        flag = chance.choice("aabbhlpw1212" + "x?")
        text = " ".join(chance.choices(self.TERMS[:5] * 4 + self.TERMS, k=chance.randrange(1, many + 2)))
        return chance.choice([
            ("haul", number, word), ("haul", number, word), ("haul", number, word), ("haul", number, word),
            ("lower", number), ("lose", flag), ("find", flag), ("find", flag), ("say", text), ("say", text),
            ("say", text + " "), ("haul", number), (flag, number),
        ])

    def check_deed(self, tower, deed):
        halyards, locker, _, _ = seen_of(tower)
        due = refusal_due(BOOK, halyards, locker, deed)
        if due is None:
            self.check_done(tower, deed)
            return "done " + deed[0]
        if due[0] is Lack and deed[0] == "haul":
            self.check_haul_lack(tower, deed[1], deed[2])
        elif due[0] is Lack:
            self.check_say_lack(tower, deed[1], said_words(BOOK, len(halyards), deed[1])[1])
        else:
            self.check_refused(tower, deed, *due)
        return deed[0] + " " + due[0].__name__ if due[0] is not NoDeed else "NoDeed"

    def test_rows_of_deeds(self):
        chance = random.Random(30)
        seen = Counter()
        for row in range(60):
            many = row % 6 + 1
            locker = {flag: chance.randrange(4) for flag in "aabbhlpcwwg12"}
            locker[chance.choice("ab1")] = 99
            tower = Tower(BOOK, locker, many)
            for _ in range(40):
                seen[self.check_deed(tower, self.deed_by_chance(chance, many))] += 1
            self.check_same(tower.again(), tower)
        for outcome in ("done haul", "done lower", "done lose", "done find", "done say", "NoDeed", "haul NoHalyard",
                        "haul NoWord", "haul Lack", "lower NoHalyard", "lose NoFlag", "lose Short", "find NoFlag",
                        "say NoText", "say NoCut", "say NoHalyard", "say Lack"):
            self.assertGreater(seen[outcome], 10, seen)


if __name__ == "__main__":
    unittest.main()
