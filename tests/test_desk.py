"""Point 33 with the rows of the interface, and of points 2 and 3 what concerns the desk."""

import random
import unittest

from counting import FLAGS, LETTERS, book_of, check_lack, checked_from, flags_in_all, words_of
from flaglocker.desk import Desk
from flaglocker.errors import Lack, NoBook, NoCut, NoFlag, NoHalyard, NoRow, NoText, NoWord, Short, TowerError
from flaglocker.texts import read_halyards, read_locker, shown_book, shown_locker
from flaglocker.tower import Tower

# With their check letters the words are aa, bl, abh, bap, abbaw.
BOOK_TEXT = "a go\nb north\nab go north\nba wait\nabba stop right now"
LOCKER_TEXT = "a4 b3 h1 l1 p1 1x1"
BOOK = [("a", "go"), ("b", "north"), ("ab", "go north"), ("ba", "wait"), ("abba", "stop right now")]
LOCKER = {"a": 4, "b": 3, "h": 1, "l": 1, "p": 1, "1": 1}
FIELDS = {Short: "flag", NoWord: "at", NoCut: "terms", NoBook: "at"}
# Each first word with how many words may stand behind it; None: one or more.
BEHIND = {"haul": 2, "lower": 1, "lose": 1, "find": 1, "say": None, "halyards": 0, "locker": 0, "read": 0, "sight": 1,
          "check": 1, "cut": None, "log": 0}
ASKING = ("halyards", "locker", "read", "log")


def answers_of(desk):
    """All that can be asked of a desk, but for its book."""
    return [desk.say(row) for row in ASKING]


class DeskCase(unittest.TestCase):
    def check_told(self, desk, row, texts):
        before = answers_of(desk)
        told = desk.say(row)
        self.assertIs(type(told), list, row)
        self.assertEqual([type(text) for text in told], [str] * len(told), row)
        self.assertEqual(told, texts, row)
        self.assertEqual(answers_of(desk), before, row)

    def check_done(self, desk, row):
        """A deed: [] is told, and the row itself is the last one of the log."""
        log = desk.say("log")
        told = desk.say(row)
        self.assertIs(type(told), list, row)
        self.assertEqual(told, [], row)
        self.assertEqual(desk.say("log"), log + [row])

    def check_refused(self, desk, row, error, field=None):
        before = answers_of(desk)
        with self.assertRaises(error, msg=repr(row)) as refusal:
            desk.say(row)
        self.check_error(refusal.exception, error, field)
        self.assertEqual(answers_of(desk), before, row)
        return refusal.exception

    def check_error(self, told, error, field):
        self.assertIs(type(told), error)
        self.assertIsInstance(told, TowerError)
        if error in FIELDS:
            self.assertIs(type(getattr(told, FIELDS[error])), type(field))
            self.assertEqual(getattr(told, FIELDS[error]), field)

    def check_answers(self, desk, halyards, locker, read, log):
        self.assertEqual(answers_of(desk), [[halyards], [locker], read, log])


class Making(DeskCase):
    def check_none(self, book_text, locker_text, many, error, field=None):
        with self.assertRaises(error) as refusal:
            Desk(book_text, locker_text, many)
        self.check_error(refusal.exception, error, field)

    def test_one_to_six_halyards(self):
        for many in range(1, 7):
            desk = Desk(BOOK_TEXT, LOCKER_TEXT, many)
            self.check_answers(desk, " ".join(["-"] * many), LOCKER_TEXT, ["-"] * many, [])

    def test_an_empty_locker(self):
        self.check_answers(Desk("a go", "", 1), "-", "", ["-"], [])

    def test_a_book_of_sixty(self):
        desk = Desk(shown_book(book_of(60)), shown_locker(dict.fromkeys(FLAGS, 99)), 6)
        for word, meaning in book_of(60):
            self.check_done(desk, "haul 3 " + checked_from(word))
            self.check_told(desk, "read", ["-", "-", "-", meaning, "-", "-"])

    def test_no_book(self):
        for text, at in (("x go", 0), ("a go\na on", 1), ("a go\nb go", 1), ("a go\nb  on", 1), (" ", 0)):
            self.check_none(text, LOCKER_TEXT, 1, NoBook, at)
        self.check_none(shown_book(book_of(61)), LOCKER_TEXT, 1, NoBook, 60)
        for text in ("", "a", "a go\n", "\na go", "x go\nb"):
            self.check_none(text, LOCKER_TEXT, 1, NoText)

    def test_no_locker(self):
        for text in (" ", "a", "a0", "a01", "a100", "b1 a1", "a1 a1", "a1  b1", "12", "ax1", "x1", "a1 "):
            self.check_none(BOOK_TEXT, text, 1, NoText)

    def test_no_number(self):
        for many in (0, 7, 8, -1, -6, 99, 10 ** 59, -10 ** 59):
            self.check_none(BOOK_TEXT, LOCKER_TEXT, many, NoHalyard)

    def test_in_order(self):
        self.check_none("x go", "a0", 0, NoBook, 0)
        self.check_none("x go", LOCKER_TEXT, 7, NoBook, 0)
        self.check_none("a go\nb", "a1", 7, NoText)
        self.check_none(BOOK_TEXT, "a0", 0, NoText)
        self.check_none(BOOK_TEXT, "a0", 7, NoText)
        self.check_none(BOOK_TEXT, "", 7, NoHalyard)


class Deeds(DeskCase):
    def test_haul(self):
        desk = Desk(BOOK_TEXT, "a2 b1 h1", 3)
        self.check_done(desk, "haul 1 abh")
        self.check_answers(desk, "- abh -", "a1", ["-", "go north", "-"], ["haul 1 abh"])

    def test_haul_on_each_halyard(self):
        for many in range(1, 7):
            desk = Desk(BOOK_TEXT, "b9 l9", many)
            for number in range(many):
                self.check_done(desk, f"haul {number} bl")
            self.assertEqual(desk.say("halyards"), [" ".join(["bl"] * many)])

    def test_haul_with_another_one_hung_otherwise(self):
        desk = Desk(BOOK_TEXT, "a2 b1 h1", 2)
        for row in ("haul 0 aa", "find 1", "haul 1 abh"):
            self.check_done(desk, row)
        self.check_answers(desk, "a1 abh", "", ["go", "go north"], ["haul 0 aa", "find 1", "haul 1 abh"])

    def test_haul_a_word_that_is_not_in_the_book(self):
        desk = Desk(BOOK_TEXT, "c1 w1", 1)
        self.check_done(desk, "haul 0 cw")
        self.check_answers(desk, "cw", "", ["-"], ["haul 0 cw"])

    def test_lower(self):
        desk = Desk(BOOK_TEXT, "a2", 2)
        for row in ("haul 1 aa", "lower 0"):
            self.check_done(desk, row)
        self.check_answers(desk, "- aa", "", ["-", "go"], ["haul 1 aa", "lower 0"])
        self.check_done(desk, "lower 1")
        self.check_answers(desk, "- -", "a2", ["-", "-"], ["haul 1 aa", "lower 0", "lower 1"])

    def test_lose_and_find(self):
        desk = Desk(BOOK_TEXT, "a1", 1)
        self.check_done(desk, "find 4")
        self.assertEqual(desk.say("locker"), ["a1 4x1"])
        self.check_done(desk, "find a")
        self.check_done(desk, "find 4")
        self.assertEqual(desk.say("locker"), ["a2 4x2"])
        for row in ("lose a", "lose a", "lose 4"):
            self.check_done(desk, row)
        self.check_answers(desk, "-", "4x1", ["-"], ["find 4", "find a", "find 4", "lose a", "lose a", "lose 4"])

    def test_each_flag(self):
        for flag in FLAGS:
            desk = Desk(BOOK_TEXT, "", 1)
            self.check_refused(desk, "lose " + flag, Short, flag)
            self.check_done(desk, "find " + flag)
            self.check_done(desk, "lose " + flag)

    def test_say(self):
        desk = Desk(BOOK_TEXT, "a2 b1 h1 p1", 3)
        self.check_done(desk, "say wait")
        self.check_answers(desk, "bap - -", "a1 h1", ["wait", "-", "-"], ["say wait"])
        self.check_done(desk, "say go north")
        self.check_answers(desk, "abh - -", "a1 p1", ["go north", "-", "-"], ["say wait", "say go north"])

    def test_say_several_words(self):
        desk = Desk(BOOK_TEXT, "a9 b9 h9 l9 p9 w9", 6)
        self.check_done(desk, "say north go north stop right now wait north")
        self.check_answers(desk, "bl abh abbaw bap bl -", "a5 b3 h8 l7 p8 w8",
                           ["north", "go north", "stop right now", "wait", "north", "-"],
                           ["say north go north stop right now wait north"])

    def test_say_many_terms(self):
        desk = Desk("a a b c d e\nb f g h i j", "a9 b9 l9", 6)
        self.check_done(desk, "say" + " a b c d e f g h i j" * 3)
        self.assertEqual(desk.say("read"), ["a b c d e", "f g h i j"] * 3)
        self.check_refused(desk, "say" + " a b c d e f g h i j" * 4, NoHalyard)
        self.check_refused(desk, "say" + " a b c d e f g h i j" * 4 + " a", NoText)


class Asking(DeskCase):
    def test_halyards_and_locker(self):
        desk = Desk(BOOK_TEXT, "a2 b2 w1 1x2 2x2", 2)
        self.check_told(desk, "halyards", ["- -"])
        self.check_told(desk, "locker", ["a2 b2 w1 1x2 2x2"])
        self.check_done(desk, "haul 1 abbaw")
        halyards, locker = desk.say("halyards"), desk.say("locker")
        self.assertEqual((len(halyards), len(locker)), (1, 1))
        in_all = flags_in_all(read_locker(locker[0]), read_halyards(halyards[0]))
        self.assertEqual(in_all, {"a": 2, "b": 2, "w": 1, "1": 2, "2": 2})

    def test_a_locker_that_runs_empty(self):
        desk = Desk(BOOK_TEXT, "a1", 1)
        self.check_done(desk, "lose a")
        self.check_told(desk, "locker", [""])

    def test_read(self):
        desk = Desk(BOOK_TEXT, LOCKER_TEXT + " 2x1", 4)
        self.check_told(desk, "read", ["-"] * 4)
        for row in ("haul 2 bap", "haul 0 aa", "haul 3 aaa"):
            self.check_done(desk, row)
        self.check_told(desk, "read", ["go", "-", "wait", "-"])

    def test_sight(self):
        desk = Desk(BOOK_TEXT, "", 1)
        self.check_told(desk, "sight ???", ["go north", "wait"])
        self.check_told(desk, "sight ??", ["go", "north"])
        self.check_told(desk, "sight a?", ["go"])
        self.check_told(desk, "sight ?1", ["go"])
        self.check_told(desk, "sight bl", ["north"])
        self.check_told(desk, "sight abh", ["go north"])
        self.check_told(desk, "sight ?a?", ["wait"])
        self.check_told(desk, "sight ab2??", ["stop right now"])
        self.check_told(desk, "sight ?????", ["stop right now"])

    def test_sights_of_which_none_is_read(self):
        desk = Desk(BOOK_TEXT, "", 1)
        for row in ("sight w?", "sight ????", "sight ???????", "sight 1?", "sight ?2", "sight 12", "sight 4444444",
                    "sight ?1?", "sight ab", "sight abbaw1", "sight abcdefg"):
            self.check_told(desk, row, [])

    def test_a_sight_hangs_on_the_book_alone(self):
        desk = Desk(BOOK_TEXT, LOCKER_TEXT, 2)
        for row in ("haul 0 abh", "haul 1 aa", "say wait"):
            self.check_done(desk, row)
            self.check_told(desk, "sight ??", ["go", "north"])

    def test_check(self):
        desk = Desk(BOOK_TEXT, "", 1)
        for word, checked in (("a", "aa"), ("b", "bl"), ("ab", "abh"), ("abba", "abbaw"), ("aaaaaa", "aaaaaaa")):
            self.check_told(desk, "check " + word, [checked])
        for word in list(words_of(LETTERS, 2)) + ["abc", "wvut", "kkkkk", "wwwwww"]:
            self.assertEqual(desk.say("check " + word), [checked_from(word)])

    def test_cut(self):
        desk = Desk(BOOK_TEXT, "", 1)
        self.check_told(desk, "cut go", ["a"])
        self.check_told(desk, "cut go north", ["ab"])
        self.check_told(desk, "cut north go go north wait stop right now", ["b", "a", "ab", "ba", "abba"])
        self.check_told(desk, "cut" + " wait" * 40, ["ba"] * 40)

    def test_log(self):
        desk = Desk(BOOK_TEXT, LOCKER_TEXT, 3)
        rows = ["haul 1 abh", "lower 0", "find 4", "lose a", "say go north wait", "find b", "haul 2 aa", "lower 2"]
        for at, row in enumerate(rows):
            self.check_told(desk, "log", rows[:at])
            self.check_done(desk, row)
        self.check_told(desk, "log", rows)

    def test_the_log_done_again(self):
        desk, other = Desk(BOOK_TEXT, LOCKER_TEXT, 3), Desk(BOOK_TEXT, LOCKER_TEXT, 3)
        for row in ("haul 1 abh", "haul 0 aa", "find 1", "haul 2 aa", "lose b", "say go wait", "haul 2 abh"):
            self.check_done(desk, row)
        for row in desk.say("log"):
            self.check_done(other, row)
        self.assertEqual(answers_of(other), answers_of(desk))


class NoRows(DeskCase):
    def setUp(self):
        self.desk = Desk(BOOK_TEXT, LOCKER_TEXT, 2)
        self.desk.say("haul 1 aa")

    def check_no_row(self, *rows):
        for row in rows:
            self.check_refused(self.desk, row, NoRow)

    def test_words_without_signs(self):
        self.check_no_row("", " ", "  ", "   ")
        for row in ("haul 0 abh", "lower 0", "lose a", "find a", "say go north", "halyards", "locker", "read",
                    "sight ab", "check ab", "cut go north", "log"):
            self.check_no_row(" " + row, row + " ", "  " + row, row + "  ")
            if " " in row:
                self.check_no_row(row.replace(" ", "  "), row.replace(" ", "  ", 1), row.replace(" ", "   ", 1))

    def test_other_first_words(self):
        for first in ("Haul", "HAUL", "haul\n", "\nhaul", "hoist", "h", "again", "book", "do", "quit", "haul,", "help",
                      "lowered", "logs", "0", "a", "-", "?", "halyard", "reads", "\u0433\u043e", "halyards\n", "log\t"):
            for rest in ("", " 0", " a", " ab", " 0 abh", " go north", " 0 abh 0"):
                self.check_no_row(first + rest)

    def test_signs_that_are_no_blanks(self):
        self.check_no_row("haul\t0\tabh", "lower\n0", "say\tgo", "haul\u00a00\u00a0abh", "lower\t0", "log\n", "read\r")

    def test_too_few_and_too_many_words(self):
        for first, behind in BEHIND.items():
            for many in range(6):
                for word in ("0", "a", "ab", "go", "abh"):
                    if many == 0 and behind is None or behind is not None and many != behind:
                        self.check_no_row(" ".join([first] + [word] * many))

    def test_ahead_of_all_else(self):
        self.check_no_row("haul 9", "haul 9 ab x", "haul x", "lower 9 9", "lower x x", "lose x x", "find x x",
                          "sight x x", "sight", "check 1 1", "raise 9 ab", "Say Go")
        self.check_no_row("haul 9  ab", "haul 9 ", "lower  9", "lose  x", "lose xx ", "sight  x", "check  1", "cut  Go",
                          "cut Go ", "say  Go", "say Go ")


class Refused(DeskCase):
    def setUp(self):
        self.desk = Desk(BOOK_TEXT, "a4 b1 h1 l1", 3)
        self.desk.say("haul 1 aa")

    def test_no_halyard(self):
        for text in ("3", "4", "5", "6", "9", "10", "00", "01", "-1", "+1", "x", "a", "0x", "1.0", "\u0661", "\u00b2",
                     "\uff11", "0\n", "\t0", "012345", "12", "-", "?", "one", "9" * 60):
            self.check_refused(self.desk, "lower " + text, NoHalyard)
            for word in ("aa", "ab", "x", "-"):
                self.check_refused(self.desk, "haul " + text + " " + word, NoHalyard)

    def test_no_halyard_of_fewer_or_more(self):
        for many in range(1, 7):
            desk = Desk(BOOK_TEXT, "a9", many)
            for number in range(8):
                if number < many:
                    self.check_done(desk, f"lower {number}")
                else:
                    self.check_refused(desk, f"lower {number}", NoHalyard)
                    self.check_refused(desk, f"haul {number} aa", NoHalyard)

    def test_no_word_to_haul(self):
        for word in ("a", "ab", "hba", "abhh", "aaaaaaaa", "x", "ax", "AA", "a1", "1", "-", "?", "abh\n", "\u0430a"):
            self.check_refused(self.desk, "haul 0 " + word, NoWord, 0)

    def test_what_cant_be_hauled(self):
        lack = self.check_refused(self.desk, "haul 0 bap", Lack)
        check_lack(self, {"a": 4, "b": 1, "h": 1, "l": 1}, ["bap", "aa"], lack.wants, lack.flags)

    def test_no_flag(self):
        for text in ("x", "y", "z", "A", "0", "5", "-", "?", "aa", "ab", "12", "1x", "a1", "a\n", "\u0661", "\u0430"):
            self.check_refused(self.desk, "lose " + text, NoFlag)
            self.check_refused(self.desk, "find " + text, NoFlag)

    def test_none_to_lose(self):
        self.check_refused(self.desk, "lose w", Short, "w")
        self.check_refused(self.desk, "lose 1", Short, "1")
        desk = Desk(BOOK_TEXT, "a2", 1)
        self.check_done(desk, "haul 0 aa")
        self.check_refused(desk, "lose a", Short, "a")

    def test_too_many_to_find(self):
        desk = Desk(BOOK_TEXT, "a99 2x99", 2)
        self.check_refused(desk, "find a", NoFlag)
        self.check_refused(desk, "find 2", NoFlag)
        self.check_done(desk, "haul 1 aa")
        self.check_refused(desk, "find a", NoFlag)

    def test_texts_that_are_none(self):
        for text in ("Go", "go1", "go-north", "a" * 11, "go " + "a" * 11, "go\nnorth", "go\tnorth", "\u00e4", "go ?",
                     " ".join(["go"] * 41), " ".join(["go"] * 290)):
            self.check_refused(self.desk, "say " + text, NoText)
            self.check_refused(self.desk, "cut " + text, NoText)

    def test_texts_that_cant_be_cut(self):
        for text, terms in (("south", 0), ("go south", 1), ("go north stop right", 2), ("stop", 0)):
            self.check_refused(self.desk, "say " + text, NoCut, terms)
            self.check_refused(self.desk, "cut " + text, NoCut, terms)

    def test_more_words_than_halyards(self):
        self.check_refused(self.desk, "say go go go go", NoHalyard)
        self.check_told(self.desk, "cut go go go go", ["a"] * 4)

    def test_what_cant_be_said(self):
        for text, words in (("wait", ["bap"]), ("north north", ["bl", "bl"]), ("go go go", ["aa", "aa", "aa"])):
            lack = self.check_refused(self.desk, "say " + text, Lack)
            check_lack(self, {"a": 4, "b": 1, "h": 1, "l": 1}, words, lack.wants, lack.flags)

    def test_say_refused_in_order(self):
        self.check_refused(self.desk, "say Go south", NoText)
        self.check_refused(self.desk, "say wait wait wait wait south", NoCut, 4)
        self.check_refused(self.desk, "say wait wait wait wait", NoHalyard)
        self.check_refused(self.desk, "say wait wait wait", Lack)

    def test_no_sight(self):
        for text in ("a", "?", "1", "????????", "abcdefgh", "ax", "x?", "a-", "--", "A?", "a0", "a5", "??.", "a\n",
                     "?\u0661", "\u0430?", "a,b"):
            self.check_refused(self.desk, "sight " + text, NoText)

    def test_no_word_to_check(self):
        for text in ("abcdefg", "aaaaaaaa", "x", "abx", "A", "1", "a1", "-", "?", "a\n", "\u0430"):
            self.check_refused(self.desk, "check " + text, NoWord, 0)


class Own(DeskCase):
    def test_what_was_told_may_be_changed(self):
        desk = Desk(BOOK_TEXT, LOCKER_TEXT, 2)
        desk.say("haul 1 aa").append("x")
        for row in ASKING + ("sight ??", "check a", "cut go north"):
            before = desk.say(row)
            desk.say(row).append("x")
            self.assertEqual(desk.say(row), before)
            desk.say(row).clear()
            self.assertEqual(desk.say(row), before)

    def test_what_was_told_stays(self):
        desk = Desk(BOOK_TEXT, LOCKER_TEXT, 2)
        desk.say("haul 1 aa")
        told, before = answers_of(desk), answers_of(desk)
        for row in ("haul 0 abh", "lose b", "find w", "lower 1", "say wait"):
            desk.say(row)
        self.assertEqual(told, before)

    def test_two_desks(self):
        one, other = Desk(BOOK_TEXT, LOCKER_TEXT, 2), Desk(BOOK_TEXT, LOCKER_TEXT, 2)
        before = answers_of(other)
        for row in ("haul 1 aa", "find w", "lose b", "say wait"):
            self.check_done(one, row)
            self.assertEqual(answers_of(other), before)


class ByChance(DeskCase):
    def row_by_chance(self, chance):
        figure, flag = chance.choice("0012345-"), chance.choice("aabhlp11x")
        word = chance.choice(["aa", "bl", "abh", "bap", "ab", "cw"])
        text = " ".join(chance.choices(["go", "north", "wait", "go north", "south"], [5, 5, 5, 5, 1],
                                       k=chance.randrange(1, 4)))
        return chance.choice([f"haul {figure} {word}", f"haul {figure} {word}", f"lower {figure}", f"lose {flag}",
                              f"find {flag}", f"say {text}"])

    def deed_of(self, row):
        first, _, rest = row.partition(" ")
        parts = rest.split(" ", 1) if first == "haul" else [rest]
        if first in ("haul", "lower"):
            parts[0] = int(parts[0]) if parts[0] in list("012345") else -1
        return (first, *parts)

    def outcome_of(self, doing, what):
        try:
            return doing(what)
        except TowerError as refusal:
            return type(refusal), vars(refusal)

    def test_as_a_tower_does(self):
        chance = random.Random(33)
        refused = 0
        for at in range(120):
            many = at % 6 + 1
            desk, tower = Desk(BOOK_TEXT, LOCKER_TEXT, many), Tower(BOOK, LOCKER, many)
            for _ in range(25):
                row = self.row_by_chance(chance)
                due = self.outcome_of(tower.do, self.deed_of(row))
                self.assertEqual(self.outcome_of(desk.say, row), [] if due is None else due, row)
                refused += due is not None
                self.assertEqual(read_halyards(desk.say("halyards")[0]), tower.halyards())
                self.assertEqual(read_locker(desk.say("locker")[0]), tower.locker())
                meanings = ["-" if number is None else BOOK[number][1] for number in tower.read()]
                self.assertEqual(desk.say("read"), meanings)
                self.assertEqual(desk.say("log"), [" ".join(map(str, deed)) for deed in tower.log()])
        self.assertTrue(600 < refused < 2400, refused)


if __name__ == "__main__":
    unittest.main()
