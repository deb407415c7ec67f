"""Points 22 and 23, and of points 2 and 3 what concerns cutting."""

import copy
import itertools
import random
import unittest

from counting import all_cuts, best_cut, words_of
from flaglocker.books import look_at, text_said
from flaglocker.cutting import cut_table, cut_text
from flaglocker.errors import NoCut, NoText, TowerError

NO_TEXTS = (
    "", " ", "  ", " go", "go ", " go ", "go  go", "go go ", " go go", "go   go", "a" * 11, "go " + "a" * 11,
    "a" * 11 + " go", "go " + "a" * 11 + " go", "Go", "gO", "go Go", "go1", "1", "go-go", "go, go", "go.", "go\tgo",
    "go\ngo", "go\n", "\ngo", "\u00e4", "go \u00e4", "go\u00a0go", "\u0430", "?", "GO",
    " ".join(["go"] * 41), " ".join(["go"] * 42), " ".join(["go"] * 300), " ".join(["go"] * 40) + " ", "x" * 9000,
)


def book_of(*meanings):
    """A book of these meanings, each with a word of its own."""
    words = words_of("abcdefghijklmnopqrstuvw", 2)
    return list(zip(words, meanings))


class CuttingCase(unittest.TestCase):
    def check_cut(self, book, text, numbers):
        before = copy.deepcopy(book)
        told = cut_text(book, text)
        self.assertIs(type(told), list)
        self.assertEqual([type(number) for number in told], [int] * len(told))
        self.assertEqual(told, numbers, (book, text))
        self.assertEqual(" ".join(book[number][1] for number in told), text)
        self.assertEqual(text_said(book, [book[number][0] for number in told]), text)
        self.assertEqual(book, before)

    def check_no_cut(self, book, text, terms):
        before = copy.deepcopy(book)
        with self.assertRaises(NoCut, msg=(book, text)) as refusal:
            cut_text(book, text)
        self.assertIs(type(refusal.exception), NoCut)
        self.assertIsInstance(refusal.exception, TowerError)
        self.assertIs(type(refusal.exception.terms), int)
        self.assertEqual(refusal.exception.terms, terms, (book, text))
        self.assertEqual(book, before)

    def check_table(self, book, text, table):
        before = copy.deepcopy(book)
        told = cut_table(book, text)
        self.assertIs(type(told), list)
        self.assertEqual(told, table, (book, text))
        self.assertTrue(all(type(many) in (int, type(None)) for many in told))
        self.assertEqual(book, before)

    def check_sought(self, book, text):
        """All three, held against a count through all cuts."""
        terms = text.split(" ")
        cuts = all_cuts(book, terms)
        if cuts:
            self.check_cut(book, text, best_cut(book, cuts))
        else:
            self.check_no_cut(book, text, max(n for n in range(len(terms)) if all_cuts(book, terms[:n])))
        rests = [all_cuts(book, terms[left:]) for left in range(len(terms) + 1)]
        self.check_table(book, text, [min([len(cut) for cut in rest], default=None) for rest in rests])
        return len(cuts)


class Cuts(CuttingCase):
    def test_one_term(self):
        self.check_cut(book_of("go"), "go", [0])
        self.check_table(book_of("go"), "go", [1, 0])
        self.check_cut(book_of("on", "go", "go on"), "go", [1])
        self.check_cut(book_of("z"), "z", [0])
        self.check_cut(book_of("abcdefghij"), "abcdefghij", [0])

    def test_one_cut(self):
        book = book_of("go", "north", "by east")
        self.check_cut(book, "north go", [1, 0])
        self.check_cut(book, "go north by east", [0, 1, 2])
        self.check_cut(book, "go go go", [0, 0, 0])
        self.check_table(book, "go north by east", [3, 2, 1, None, 0])

    def test_fewest_words(self):
        book = book_of("go", "north", "go north")
        self.check_cut(book, "go north", [2])
        self.check_cut(book, "go go north", [0, 2])
        self.check_cut(book, "go north go north", [2, 2])
        self.check_table(book, "go go north", [2, 1, 1, 0])

    def test_fewest_ahead_of_the_longest_first(self):
        book = book_of("a b c", "a", "b c d e", "d", "e")
        self.check_cut(book, "a b c d e", [1, 2])
        book = book_of("a b", "a", "b c", "c", "c d", "b c d")
        self.check_cut(book, "a b c d", [0, 4])
        self.check_cut(book, "a b c", [0, 3])

    def test_of_several_as_short_the_longer_first(self):
        self.check_cut(book_of("a", "a a"), "a a a", [1, 0])
        self.check_cut(book_of("a a", "a"), "a a a", [0, 1])
        self.check_cut(book_of("a", "a b", "b c", "c"), "a b c", [1, 3])
        self.check_cut(book_of("c", "b c", "a", "a b"), "a b c", [3, 0])
        self.check_cut(book_of("a", "b c", "a b c", "d e f", "f", "a b", "c d e f"), "a b c d e f", [2, 3])

    def test_of_several_as_short_the_longer_where_they_differ(self):
        book = book_of("s t", "a", "a b", "b c", "c")
        self.check_cut(book, "s t a b c", [0, 2, 4])
        self.check_cut(book, "s t a b c s t a b c", [0, 2, 4, 0, 2, 4])
        book = book_of("a", "a a", "a a a a")
        self.check_cut(book, "a a a a a a a", [2, 1, 0])

    def test_the_longer_first_though_a_later_one_has_more_signs(self):
        book = book_of("a", "bbbbbbbbbb", "c", "a bbbbbbbbbb", "bbbbbbbbbb c")
        self.check_cut(book, "a bbbbbbbbbb c", [3, 2])
        book = book_of("a", "a b", "b cccccccccc", "cccccccccc")
        self.check_cut(book, "a b cccccccccc", [1, 3])

    def test_a_meaning_that_is_the_beginning_or_the_end_of_another(self):
        book = book_of("go", "go on", "go on now", "on now", "now")
        for text in ("go", "go on", "go on now", "go on go on now", "go now", "go go on now now", "go on on now"):
            self.check_sought(book, text)
        self.check_cut(book, "go on on now", [1, 3])
        self.check_cut(book, "go go on now", [0, 2])

    def test_terms_are_whole(self):
        self.check_no_cut(book_of("go", "on"), "goon", 0)
        self.check_no_cut(book_of("go", "on"), "go o n", 1)
        self.check_no_cut(book_of("g", "o", "goo"), "go", 0)
        self.check_no_cut(book_of("goon"), "go on", 0)
        self.check_no_cut(book_of("a bb"), "a b", 0)
        self.check_no_cut(book_of("b a"), "bb a", 0)

    def test_forty_terms(self):
        book = book_of("a", "a a", "a a a", "a a a a", "a a a a a")
        self.check_cut(book, " ".join("a" * 40), [4] * 8)
        self.check_cut(book, " ".join("a" * 39), [4] * 7 + [3])
        self.check_cut(book, " ".join("a" * 36), [4] * 7 + [0])
        self.check_table(book, " ".join("a" * 40), [(left + 4) // 5 for left in range(40, -1, -1)])
        self.check_cut(book_of("a"), " ".join("a" * 40), [0] * 40)
        self.check_cut(book_of("a" * 10), " ".join(["a" * 10] * 40), [0] * 40)
        self.check_cut(book_of("a a a", "a a a a a"), " ".join("a" * 39), [1] * 6 + [0] * 3)
        self.check_cut(book_of("a a a", "b", "b a a a a"), " ".join("a" * 39 + "b"), [0] * 13 + [1])

    def test_sixty_tuples(self):
        pairs = [" ".join(signs) for signs in itertools.product("abcdefg", repeat=2)]
        book = book_of(*"abcdefg", "a b c", "a b c d e", "g f e d c", "e d c b a", *pairs)
        self.assertEqual((len(book), look_at(book)), (60, None))
        self.check_cut(book, " ".join("abcdefg"), [8, 11 + pairs.index("f g")])
        for text in ("abcdefg", "abcde", "gfedcba", "abcdcba", "gfedabc", "aabbc"):
            self.check_sought(book, " ".join(text))
        told = cut_text(book, " ".join("abcdefg" * 5 + "abcde"))
        self.assertEqual(told[0], 8)
        self.assertEqual(" ".join(book[number][1] for number in told), " ".join("abcdefg" * 5 + "abcde"))


class NoCuts(CuttingCase):
    def test_nothing_can_be_cut(self):
        self.check_no_cut(book_of("go"), "on", 0)
        self.check_table(book_of("go"), "on", [None, 0])
        self.check_no_cut(book_of("go on"), "go", 0)
        self.check_no_cut(book_of("go"), "on go go", 0)
        self.check_table(book_of("go"), "on go go", [None, 2, 1, 0])
        self.check_no_cut(book_of("go"), " ".join(["on"] * 40), 0)

    def test_in_the_midst(self):
        self.check_no_cut(book_of("go", "north"), "go north south go", 2)
        self.check_table(book_of("go", "north"), "go north south go", [None, None, None, 1, 0])
        self.check_no_cut(book_of("a", "a b c", "b"), "a b c d e", 3)
        self.check_no_cut(book_of("a", "a b c"), "a b d c", 1)

    def test_the_greatest_though_the_longest_leads_nowhere(self):
        self.check_no_cut(book_of("a b c", "a", "b c d e"), "a b c d e f", 5)
        self.check_no_cut(book_of("a b", "a", "b c"), "a b c d", 3)
        self.check_no_cut(book_of("a b c d", "a", "b"), "a b c d e", 4)

    def test_one_before_the_end(self):
        self.check_no_cut(book_of("go"), "go on", 1)
        self.check_table(book_of("go"), "go on", [None, None, 0])
        self.check_no_cut(book_of("a a"), "a a a", 2)
        self.check_table(book_of("a a"), "a a a", [None, 1, None, 0])
        self.check_no_cut(book_of("a a a", "a a a a a a"), " ".join("a" * 40), 39)

    def test_a_meaning_that_reaches_over_the_end(self):
        self.check_no_cut(book_of("a", "a b c"), "a b", 1)
        self.check_no_cut(book_of("a b c d e"), "a b c d", 0)
        self.check_table(book_of("a b c d e", "d"), "a b c d", [None, None, None, 1, 0])

    def test_forty_terms(self):
        book = book_of("a", "a a", "a a a", "a a a a", "a a a a a")
        text = " ".join("a" * 39 + "b")
        self.check_no_cut(book, text, 39)
        self.check_table(book, text, [None] * 40 + [0])
        text = " ".join("b" + "a" * 39)
        self.check_no_cut(book, text, 0)
        self.check_table(book, text, [None] + [(left + 4) // 5 for left in range(39, -1, -1)])


class NoTexts(CuttingCase):
    def test_what_is_no_text(self):
        for book in (book_of("go"), book_of("go", "go go", "a", "on"), book_of("on")):
            for text in NO_TEXTS:
                for ask in (cut_text, cut_table):
                    before = copy.deepcopy(book)
                    with self.assertRaises(NoText, msg=(ask, text)) as refusal:
                        ask(book, text)
                    self.assertIs(type(refusal.exception), NoText)
                    self.assertIsInstance(refusal.exception, TowerError)
                    self.assertEqual(book, before)


class Sought(CuttingCase):
    def test_small_books(self):
        texts = [" ".join(word) for word in words_of("ab", 5)]
        some = [" ".join(word) for word in words_of("ab", 2)]
        for many in (1, 2, 3):
            for meanings in itertools.permutations(some, many):
                for text in texts:
                    self.check_sought(book_of(*meanings), text)

    def test_larger_books(self):
        chance = random.Random(22)
        some = [" ".join(word) for word in words_of("ab", 4)] + ["c", "c a", "b c", "a b c b a"]
        many_cuts = 0
        for _ in range(300):
            book = book_of(*chance.sample(some, chance.randrange(2, 20)))
            for _ in range(6):
                text = " ".join(chance.choices("aaaabbbbc", k=chance.randrange(1, 9)))
                many_cuts += self.check_sought(book, text) > 1
        self.assertGreater(many_cuts, 100)

    def test_texts_said_are_cut(self):
        chance = random.Random(23)
        some = [" ".join(word) for word in words_of("abc", 3)]
        for _ in range(100):
            book = book_of(*chance.sample(some, chance.randrange(1, 20)))
            words = [chance.choice(book)[0] for _ in range(chance.randrange(1, 14))]
            text = text_said(book, words)
            told = cut_text(book, text)
            self.assertLessEqual(len(told), len(words))
            self.assertEqual(len(told), cut_table(book, text)[0])
            self.assertEqual(text_said(book, [book[number][0] for number in told]), text)


class Own(CuttingCase):
    def test_what_is_told_is_the_askers_own(self):
        book = book_of("go", "on")
        numbers, table = cut_text(book, "go on"), cut_table(book, "go on")
        book.clear()
        self.assertEqual((numbers, table), ([0, 1], [2, 1, 0]))
        numbers.clear()
        table.clear()
        book = book_of("go", "on")
        self.check_cut(book, "go on", [0, 1])
        self.check_table(book, "go on", [2, 1, 0])


if __name__ == "__main__":
    unittest.main()
