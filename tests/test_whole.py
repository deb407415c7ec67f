"""The interface as it stands, and points 1 to 3 where the stages of the program meet."""

import copy
import importlib
import inspect
import random
import unittest

from counting import FLAGS, LETTERS, check_lack, checked_by_count, checked_from, flags_due, flags_in_all
from counting import hidden_in, hoist_by_chance, hung_by_count, reads_to, sets_of_others, tried, word_of, words_of
from flaglocker.books import look_at, text_said
from flaglocker.checks import hidden_letter, is_checked
from flaglocker.cutting import cut_text
from flaglocker.desk import Desk
from flaglocker.errors import Lack, NoCut, Short, TowerError
from flaglocker.halyards import hauling_papers
from flaglocker.hanging import is_hanging, is_lack
from flaglocker.hoists import read_of
from flaglocker.sights import read_in
from flaglocker.texts import read_book, read_halyards, read_locker, shown_book, shown_halyards, shown_locker
from flaglocker.tower import Tower

INTERFACE = {
    "flags": {"rank_of": "letter", "is_flag": "text", "is_word": "text"},
    "hoists": {"is_hoist": "flags", "read_of": "flags"},
    "lockers": {"plain_locker": "locker", "taken": "locker flags", "put_in": "locker flags"},
    "wants": {"choices_at": "word place", "wants_of": "words", "hoists_of": "words flags"},
    "hanging": {"hang_all": "locker words", "is_hanging": "locker words hoists", "is_lack": "locker words wants flags"},
    "choosing": {"by_rank": "locker words", "most_kept": "locker words"},
    "halyards": {"hauled": "locker halyards number word", "hauling_papers": "locker halyards number word"},
    "books": {"look_at": "book", "text_said": "book words"},
    "cutting": {"cut_text": "book text", "cut_table": "book text"},
    "checks": {"is_checked": "word", "check_of": "word", "hidden_letter": "letters"},
    "sights": {"fits_sight": "sight word", "read_in": "book sight"},
    "texts": {"shown_locker": "locker", "shown_halyards": "halyards", "shown_book": "book", "read_locker": "text",
              "read_halyards": "text", "read_book": "text"},
    "tower": {"Tower": "book locker many"},
    "desk": {"Desk": "book_text locker_text many"},
    "errors": {"Short": "flag", "Lack": "wants flags", "NoBook": "at", "NoWord": "at", "NoCut": "terms"},
}
METHODS = {
    "tower": ("Tower", {"do": "self deed", "halyards": "self", "locker": "self", "log": "self", "read": "self",
                        "again": "self"}),
    "desk": ("Desk", {"say": "self row"}),
}


def book_by_chance(chance):
    """A book of three to eight words over few letters, whose meanings have terms in common."""
    words = chance.sample(list(words_of("abc", 4)), chance.randrange(3, 9))
    meanings = []
    while len(meanings) < len(words):
        meaning = " ".join(chance.choices(("go", "north", "by", "east"), k=chance.randrange(1, 4)))
        meanings += [meaning] if meaning not in meanings else []
    return list(zip(words, meanings, strict=True))


def locker_by_chance(chance):
    return {flag: chance.randrange(0, 6) if flag in "abc12" else chance.randrange(1, 3) for flag in FLAGS}


def deed_by_chance(chance, book, many):
    number = chance.randrange(many)
    word = checked_from(chance.choice(book)[0])
    text = " ".join(chance.choice(book)[1] for _ in range(chance.randrange(1, many + 1)))
    flag = chance.choice("abc1234w")
    others = [("lower", number), ("lose", flag), ("find", flag), ("say", text)]
    return chance.choice([("haul", number, word)] * 4 + others)


class Interface(unittest.TestCase):
    def check_takes(self, what, names):
        self.assertEqual(list(inspect.signature(what).parameters), names.split())

    def test_functions_and_classes(self):
        for module, defs in INTERFACE.items():
            for name, names in defs.items():
                with self.subTest(module=module, name=name):
                    self.check_takes(getattr(importlib.import_module("flaglocker." + module), name), names)

    def test_methods(self):
        for module, (kind, methods) in METHODS.items():
            for name, names in methods.items():
                with self.subTest(module=module, name=name):
                    made = getattr(importlib.import_module("flaglocker." + module), kind)
                    self.check_takes(getattr(made, name), names)


class Rows(unittest.TestCase):
    """Rows of deeds by chance; behind each one that is done, all that hangs is looked at by every stage."""

    def test_rows_of_deeds(self):
        chance = random.Random(3)
        done = refused = 0
        for at in range(90):
            book, locker, many = book_by_chance(chance), locker_by_chance(chance), at % 6 + 1
            look_at(book)
            tower = Tower(book, locker, many)
            for _ in range(25):
                if self.check_deed(tower, book, deed_by_chance(chance, book, many)):
                    done += 1
                    self.check_hung(chance, tower, book)
                else:
                    refused += 1
            self.check_texts(tower, book)
            self.check_again(tower, book, locker, many)
        self.assertTrue(min(done, refused) > 300, (done, refused))

    def check_deed(self, tower, book, deed):
        before = copy.deepcopy((tower.halyards(), tower.locker(), tower.log(), tower.read()))
        if deed[0] == "haul":
            self.check_papers(before[1], before[0], deed[1], deed[2])
        try:
            tower.do(deed)
        except TowerError as refusal:
            self.assertIn(type(refusal), (Lack, Short))
            self.assertEqual((tower.halyards(), tower.locker(), tower.log(), tower.read()), before)
            return False
        if deed[0] == "say":
            self.assertEqual([number for number in tower.read() if number is not None], cut_text(book, deed[1]))
            self.assertEqual(self.said_by(tower, book), deed[1])
        self.assertEqual(flags_in_all(tower.locker(), tower.halyards()), flags_due(before[1], before[0], deed))
        return True

    def said_by(self, tower, book):
        return text_said(book, [book[number][0] for number in tower.read() if number is not None])

    def check_papers(self, locker, halyards, number, word):
        """A paper for each set that is tried ahead of the one that is lowered, or a lack for all others."""
        try:
            papers = hauling_papers(locker, halyards, number, word)
        except Lack as lack:
            more, words = tried(locker, halyards, number, word, sets_of_others(halyards, number)[-1])
            check_lack(self, more, words, lack.wants, lack.flags)
            self.assertTrue(is_lack(more, words, lack.wants, lack.flags))
            return
        self.assertEqual([paper[0] for paper in papers], sets_of_others(halyards, number)[:len(papers)])
        for lowered, wants, flags in papers:
            more, words = tried(locker, halyards, number, word, lowered)
            check_lack(self, more, words, wants, flags)
            self.assertTrue(is_lack(more, words, wants, flags))

    def check_hung(self, chance, tower, book):
        hoists = [hoist for hoist in tower.halyards() if hoist is not None]
        words = [read_of(hoist) for hoist in hoists]
        in_all = flags_in_all(tower.locker(), tower.halyards())
        self.assertTrue(hung_by_count(in_all, words, hoists))
        self.assertTrue(is_hanging(in_all, words, hoists))
        self.assertTrue(all(many <= 99 for many in in_all.values()))
        for number, hoist in zip(tower.read(), tower.halyards(), strict=True):
            if hoist is not None:
                self.check_hoist(chance, book, number, hoist)

    def check_hoist(self, chance, book, number, hoist):
        word = word_of(hoist)
        self.assertEqual(read_of(hoist), word)
        self.assertEqual(checked_from(book[number][0]), word)
        self.assertTrue(checked_by_count(word) and is_checked(word))
        self.assertIn(number, read_in(book, hidden_in(chance, hoist)))
        self.assertEqual(read_in(book, hoist), [number])
        at = chance.randrange(len(word))
        self.assertEqual(hidden_letter(list(word[:at]) + [None] + list(word[at + 1:])), word[at])

    def check_texts(self, tower, book):
        self.assertEqual(read_halyards(shown_halyards(tower.halyards())), tower.halyards())
        self.assertEqual(read_locker(shown_locker(tower.locker())), tower.locker())
        self.assertEqual(read_book(shown_book(book)), book)

    def check_again(self, tower, book, locker, many):
        desk = Desk(shown_book(book), shown_locker(locker), many)
        for deed in tower.log():
            self.assertEqual(desk.say(" ".join(str(part) for part in deed)), [])
        self.assertEqual(desk.say("halyards"), [shown_halyards(tower.halyards())])
        self.assertEqual(desk.say("locker"), [shown_locker(tower.locker())])
        other = tower.again()
        self.assertEqual((other.halyards(), other.locker(), other.log()),
                         (tower.halyards(), tower.locker(), tower.log()))


class Wrong(unittest.TestCase):
    """What was hung wrong is told: by its check letter, and in the wind by what is read of it."""

    def test_one_wrong_flag_is_read_as_no_word_of_the_book(self):
        chance = random.Random(4)
        for _ in range(60):
            book = book_by_chance(chance)
            hoist = list(checked_from(chance.choice(book)[0]))
            for at, letter in ((at, letter) for at in range(len(hoist)) for letter in LETTERS):
                wrong = hoist[:at] + [letter] + hoist[at + 1:]
                if wrong != hoist:
                    self.assertFalse(is_checked(read_of(wrong)))
                    self.assertEqual(read_in(book, wrong), [])

    def test_a_sight_is_read_as_just_those_words_that_can_hang_so(self):
        chance = random.Random(5)
        for _ in range(400):
            book = book_by_chance(chance)
            words = [checked_from(word) for word, _ in book]
            sight = hidden_in(chance, hoist_by_chance(chance, chance.choice(words)))
            for number, word in enumerate(words):
                # Where a word has a hidden place, its letter does there; so just one hoist is to be tried.
                shown = len(sight) == len(word) and [seen or letter for seen, letter in zip(sight, word)]
                self.assertEqual(number in read_in(book, sight), bool(shown) and reads_to(shown, word))

    def test_texts_are_said_as_they_were_cut(self):
        chance = random.Random(6)
        cuts = 0
        for _ in range(500):
            book = book_by_chance(chance)
            text = " ".join(chance.choices(("go", "north", "by", "east"), k=chance.randrange(1, 12)))
            try:
                numbers = cut_text(book, text)
            except NoCut as refusal:
                terms = text.split(" ")[:refusal.terms]
                self.assertLess(refusal.terms, len(text.split(" ")))
                numbers, text = (cut_text(book, " ".join(terms)) if terms else []), " ".join(terms)
            if numbers:
                self.assertEqual(text_said(book, [book[number][0] for number in numbers]), text)
                cuts += 1
        self.assertGreater(cuts, 200)


if __name__ == "__main__":
    unittest.main()
