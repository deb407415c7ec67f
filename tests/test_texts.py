"""Point 28, and of points 2 and 3 what concerns texts."""

import copy
import itertools
import random
import unittest

from counting import FLAGS, LETTERS, book_of, hoist_by_chance, words_of
from flaglocker.errors import NoBook, NoText, TowerError
from flaglocker.texts import read_book, read_halyards, read_locker, shown_book, shown_halyards, shown_locker

# Signs that are blanks, figures or letters elsewhere, and texts that Python reads as numbers.
STRANGE = ("\t", "\n", "\r", "\u00a0", "\u0661", "\u00b2", "\uff11", "\u00e4", "\u0430", "_", "+", "-", ".", ",", ":")


class TextCase(unittest.TestCase):
    def check_written(self, write, read, what, text, back=None):
        before = copy.deepcopy(what)
        told = write(what)
        self.assertIs(type(told), str)
        self.assertEqual(told, text, before)
        self.assertEqual(what, before)
        self.check_read(read, text, before if back is None else back)

    def check_read(self, read, text, what):
        told = read(text)
        self.assertIs(type(told), type(what))
        self.assertEqual(told, what, text)

    def check_refused(self, read, text):
        with self.assertRaises(NoText, msg=repr(text)) as refusal:
            read(text)
        self.assertIs(type(refusal.exception), NoText)
        self.assertIsInstance(refusal.exception, TowerError)

    def check_strange(self, read, text):
        """No strange sign stands in the text at any place."""
        for at in range(len(text) + 1):
            for sign in STRANGE:
                self.check_refused(read, text[:at] + sign + text[at:])


class Lockers(TextCase):
    def check_locker(self, locker, text):
        plain = {flag: many for flag, many in locker.items() if many > 0}
        self.check_written(shown_locker, read_locker, locker, text, plain)

    def check_no_locker(self, *texts):
        for text in texts:
            self.check_refused(read_locker, text)

    def test_some(self):
        self.check_locker({"a": 3, "b": 1, "1": 2}, "a3 b1 1x2")
        self.check_locker({"w": 99}, "w99")
        self.check_locker({"4": 99}, "4x99")
        self.check_locker({"a": 10, "1": 1, "2": 20, "3": 9, "4": 90}, "a10 1x1 2x20 3x9 4x90")

    def test_none(self):
        self.check_locker({}, "")
        self.check_locker({"a": 0}, "")
        self.check_locker(dict.fromkeys(FLAGS, 0), "")

    def test_flags_of_which_there_are_none(self):
        self.check_locker({"a": 0, "b": 1, "1": 0, "2": 5}, "b1 2x5")

    def test_the_order_of_flags(self):
        self.check_locker({"1": 2, "b": 1, "a": 3}, "a3 b1 1x2")
        self.check_locker({"4": 1, "w": 2, "1": 3, "v": 4}, "v4 w2 1x3 4x1")
        chance = random.Random(281)
        for _ in range(50):
            flags = chance.sample(FLAGS, 27)
            locker = {flag: FLAGS.index(flag) + 1 for flag in flags}
            written = [f"{flag}{at}" for at, flag in enumerate(LETTERS, start=1)]
            self.check_locker(locker, " ".join(written + ["1x24", "2x25", "3x26", "4x27"]))

    def test_each_flag_and_each_number(self):
        for flag, many in itertools.product(FLAGS, range(1, 100)):
            self.check_locker({flag: many}, f"{flag}x{many}" if flag in "1234" else f"{flag}{many}")

    def test_lockers_by_chance(self):
        chance = random.Random(282)
        for _ in range(300):
            locker = {flag: chance.randrange(100) for flag in chance.sample(FLAGS, chance.randrange(28))}
            told = shown_locker(locker)
            self.assertEqual(read_locker(told), {flag: many for flag, many in locker.items() if many > 0})
            self.assertEqual(list(read_locker(told)), [flag for flag in FLAGS if locker.get(flag, 0) > 0])
            self.assertEqual(shown_locker(read_locker(told)), told)

    def test_blanks(self):
        self.check_no_locker(" ", "  ", " a3", "a3 ", "a3  b1", " a3 b1", "a3 b1 ", "a3   b1", "a 3", "1 x2", "1x 2")

    def test_numbers_that_are_none(self):
        for number in ("", "0", "00", "01", "09", "001", "100", "101", "199", "990", "1000", "-1", "+1", "1.0", "1e1",
                       "1_0", "one", "x", "xx", "1x", " 1", "9" * 60):
            self.check_no_locker("a" + number, "1x" + number, "a1 b" + number, "b" + number + " c1", "a1 2x" + number)

    def test_substitutes_without_x_and_letters_with_it(self):
        self.check_no_locker("12", "1 2", "11", "112", "1xx2", "1X2", "x2", "1x", "1", "ax3", "a3 bx1", "wx99", "a1x2")

    def test_flags_that_are_none(self):
        self.check_no_locker("x1", "y1", "z1", "A1", "01", "0x1", "5x1", "9x1", "-1", "-", "?1", "aa1", "ab1", "3a")

    def test_flags_without_numbers(self):
        self.check_no_locker("a", "a b", "a3 b", "b a3", "a3b1", "a31x2")

    def test_out_of_order(self):
        self.check_no_locker("b1 a3", "1x2 a3", "a3 1x2 b1", "2x1 1x1", "w1 v1", "4x1 a1", "a1 c1 b1 d1")
        for ahead, behind in itertools.combinations(FLAGS, 2):
            texts = [flag + ("x5" if flag in "1234" else "5") for flag in (behind, ahead)]
            self.check_no_locker(" ".join(texts))
            self.check_read(read_locker, " ".join(reversed(texts)), {ahead: 5, behind: 5})

    def test_twice(self):
        self.check_no_locker("a1 a1", "a1 a2", "a1 b1 b1", "a1 b1 a1", "1x1 1x1", "1x1 1x2", "a1 b1 1x1 1x1")
        self.check_no_locker(" ".join(["a1"] * 300))

    def test_strange_signs(self):
        self.check_strange(read_locker, "a3 b10 1x2")
        self.check_no_locker("a\u0661", "a\u00b2", "a\uff11", "\u03311x1", "a3\nb1", "a3,b1", "a3\tb1", "{}", "None")

    def test_texts_of_other_things(self):
        self.check_no_locker("ab1", "a -", "go north", "a go", "a3 go", "x" * 9000, "a" * 9000)

    def test_what_is_told_is_the_askers_own(self):
        told = read_locker("a3 1x2")
        told["a"] = 7
        read_locker("")["b"] = 1
        self.assertEqual(read_locker("a3 1x2"), {"a": 3, "1": 2})
        self.assertEqual(read_locker(""), {})


class Halyards(TextCase):
    def check_halyards(self, halyards, text):
        self.check_written(shown_halyards, read_halyards, halyards, text)

    def check_no_halyards(self, *texts):
        for text in texts:
            self.check_refused(read_halyards, text)

    def test_some(self):
        self.check_halyards([["a", "b", "1"]], "ab1")
        self.check_halyards([["a", "b", "1"], ["w"]], "ab1 w")
        self.check_halyards([list("abcdefg"), list("a123412")], "abcdefg a123412")

    def test_bare_ones(self):
        self.check_halyards([None], "-")
        self.check_halyards([None, ["a"], None], "- a -")
        for many in range(1, 7):
            self.check_halyards([None] * many, " ".join("-" * many))

    def test_the_text_without_signs(self):
        self.check_no_halyards("")
        self.check_read(read_halyards, "-", [None])
        self.check_read(read_locker, "", {})

    def test_a_halyard_without_signs_among_others(self):
        for many in range(2, 8):
            for at, other in itertools.product(range(many), ("-", "a", "ab1")):
                self.check_no_halyards(" ".join([other] * at + [""] + [other] * (many - at - 1)))
            self.check_no_halyards(" ".join([""] * many))

    def test_one_to_six(self):
        for many in range(1, 7):
            self.check_halyards([["a", "1"]] * many, " ".join(["a1"] * many))
            self.check_halyards([["b"]] * (many - 1) + [None], " ".join(["b"] * (many - 1) + ["-"]))

    def test_halyards_by_chance(self):
        chance = random.Random(283)
        for _ in range(500):
            words = ["".join(chance.choices("abw", k=chance.randrange(1, 8))) for _ in range(chance.randrange(1, 7))]
            halyards = [None if chance.randrange(4) == 0 else hoist_by_chance(chance, word) for word in words]
            self.check_halyards(halyards, " ".join("-" if some is None else "".join(some) for some in halyards))

    def test_more_than_six(self):
        for many in (7, 8, 300):
            self.check_no_halyards(" ".join(["a"] * many), " ".join(["-"] * many))
            self.check_no_halyards(" ".join(["-"] * (many - 1) + ["ab1"]))

    def test_blanks(self):
        self.check_no_halyards(" ", "  ", " a", "a ", "a  b", "-  -", " -", "- ", "a b ", "a   b")

    def test_hoists_that_are_none(self):
        for text in ("1", "4", "12", "a2", "a3", "ab3", "abc4", "1a", "abcdefgh", "a1234123", "x", "abx", "y", "z", "A",
                     "aB", "a0", "a5", "?", "a?", "--", "-a", "a-", "a-b", "_"):
            self.check_no_halyards(text, "a " + text, text + " a", "- " + text + " -")

    def test_all_short_lists_of_signs(self):
        for many in (1, 2, 3):
            for signs in itertools.product("ab124x-", repeat=many):
                text = "".join(signs)
                if text == "-":
                    self.check_read(read_halyards, text, [None])
                elif all(sign in "ab" or sign in "124" and int(sign) < place for place, sign in enumerate(text, 1)):
                    self.check_read(read_halyards, text, [list(text)])
                else:
                    self.check_no_halyards(text)

    def test_strange_signs(self):
        for sign in STRANGE:
            for at in range(6):
                if (sign, at) != ("-", 5):
                    self.check_no_halyards("ab1 a"[:at] + sign + "ab1 a"[at:])
        self.check_no_halyards("a\nb", "a\tb", "a,b", "None", "[]", "a\u0661")

    def test_texts_of_other_things(self):
        self.check_no_halyards("a3 b1 1x2", "go by north", "a go\nb wait", "a" * 9000)

    def test_what_is_told_is_the_askers_own(self):
        told = read_halyards("ab1 - ab1")
        told[0].append("w")
        told.append(None)
        self.assertEqual(told[2], ["a", "b", "1"])
        self.assertEqual(read_halyards("ab1 - ab1"), [["a", "b", "1"], None, ["a", "b", "1"]])


class Books(TextCase):
    def check_book(self, book, text):
        self.check_written(shown_book, read_book, book, text)
        self.assertTrue(all(type(row) is tuple for row in read_book(text)))

    def check_no_rows(self, *texts):
        for text in texts:
            self.check_refused(read_book, text)

    def check_no_book(self, text, at):
        with self.assertRaises(NoBook, msg=repr(text)) as refusal:
            read_book(text)
        self.assertIs(type(refusal.exception), NoBook)
        self.assertIsInstance(refusal.exception, TowerError)
        self.assertIs(type(refusal.exception.at), int)
        self.assertEqual(refusal.exception.at, at, text)

    def test_some(self):
        self.check_book([("a", "go")], "a go")
        self.check_book([("ab", "go north"), ("b", "wait")], "ab go north\nb wait")
        self.check_book([("abcdef", "a b c d e"), ("wwwwww", "zzzzzzzzzz")], "abcdef a b c d e\nwwwwww zzzzzzzzzz")
        self.check_book([("a", "b"), ("b", "a")], "a b\nb a")

    def test_the_order_of_rows(self):
        self.check_book([("c", "go"), ("a", "wait"), ("b", "east")], "c go\na wait\nb east")

    def test_one_to_sixty_rows(self):
        for many in range(1, 61):
            book = book_of(many)
            self.check_book(book, "\n".join(" ".join(row) for row in book))

    def test_all_words_of_two_letters(self):
        for word in words_of(LETTERS, 2):
            self.check_book([(word, "go")], word + " go")

    def test_rows_without_a_blank(self):
        self.check_no_rows("", "\n", "\n\n", "a", "go", "abc", "a\n", "a go\n", "\na go", "a go\n\nb wait", "a go\nb",
                           "b\na go", "a go\nb\nc wait", "a\tgo", "a\u00a0go", "a-go", "a go\nb\twait", "x" * 9000)

    def test_a_row_without_a_blank_ahead_of_all(self):
        self.check_no_rows("x go\nb", "a go\na go\nb", "b\nx go", "a Go\n", " \n", "a go\nA go\n\n", "a  go\n")
        for many in (61, 62, 100):
            rows = [" ".join(row) for row in book_of(many)]
            self.check_no_rows("\n".join(rows + ["b"]), "\n".join(rows + [""]), "\n".join(["b"] + rows))

    def test_no_word(self):
        for word in ("", "abcdefg", "x", "abx", "A", "1", "a1", "-", "a\t", "\u0430", "a\r"):
            self.check_no_book(word + " go", 0)
            self.check_no_book("b wait\n" + word + " go", 1)
            self.check_no_book(word + " go\nb wait", 0)

    def test_no_meaning(self):
        for meaning in ("", " ", " go", "go ", "go  north", "a b c d e f", "a" * 11, "Go", "go1", "go\tnorth", "go\r",
                        "go-north", "\u00e4", "\u0430"):
            self.check_no_book("a " + meaning, 0)
            self.check_no_book("b wait\na " + meaning, 1)
            self.check_no_book("b wait\na " + meaning + "\nc on", 1)

    def test_alike_words_and_meanings(self):
        self.check_no_book("a go\na wait", 1)
        self.check_no_book("a go\nb go", 1)
        self.check_no_book("a go\nb on\na go", 2)
        self.check_no_book("a go\nb on\nc off\nd on\na off", 3)

    def test_each_row(self):
        for many in (1, 2, 7, 60):
            for at in range(many):
                rows = [" ".join(row) for row in book_of(many)]
                rows[at] = "ax zz zz"
                self.check_no_book("\n".join(rows), at)

    def test_more_than_sixty(self):
        for many in (61, 62, 100):
            self.check_no_book("\n".join(" ".join(row) for row in book_of(many)), 60)

    def test_the_first_of_several(self):
        self.check_no_book("a go\nx on\na Go", 1)
        self.check_no_book("a go\na on\nx off", 1)
        self.check_no_book(" \n ", 0)
        self.check_no_book(" ", 0)

    def test_other_row_ends(self):
        for sign in ("\r\n", "\r", "\x0b", "\x0c", "\x1c", "\x85", "\u2028"):
            self.check_no_book("a go" + sign + "b wait on", 0)
            self.check_no_book("c off\na go" + sign + "b wait on", 1)

    def test_what_is_told_is_the_askers_own(self):
        told = read_book("a go\nb wait")
        told.append(("c", "on"))
        self.assertEqual(read_book("a go\nb wait"), [("a", "go"), ("b", "wait")])


if __name__ == "__main__":
    unittest.main()
